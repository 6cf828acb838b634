import PyProof.Rows.All
import Wide.All
import OpenK.AllK
import Wide.FinOn
import HandS.ForMost
import HandS.IsInst
import HandS.Property
import HandS.TupAny
import HandS.Strs
import HandS.Conv
import HandS.Defaults
import KE.GoesEnum
import HandS.Walk
import HandS.OwnEq
import HandS.More
import KE.KOpsOwn
import KE.KCallOwn
import PyProof.InstNe
import HandS.WideBits
import HandS.Zip
import HandS.Star
import KE.KStar
import HandS.MethStar
import PyProof.ReprLen
import PyProof.StrLawsRepr
import PyProof.FitsInt
import KE.KRevSl
import OpenK.KMeth
import OpenK.KOps
import KE.KFmtOwn
import HandS.FStr
import HandS.ClsMeth
import HandS.MakeKwOnly
import HandS.RaiseMore
import HandS.Exc
import KE.KTryMore
import HandS.ExcInit
import HandS.ExcField
import HandS.ExcIs
import HandS.Lambda
import HandS.HotCalls
import KE.KExcIs
import HandS.Dict
import KE.DataFind
import HandS.ReplaceLit
import HandS.Style
import HandS.EndTab
import KE.KNestM
import HandS.WordsExc
import HandS.ListEq
import KE.KEqSeq
import HandS.SortOrd
import HandS.SortRule
import KE.KSortTupAny
import HandS.DictComp
import HandS.SortKw
import HandS.TupLe
import HandS.Deep
import HandS.Wide
import OpenK.KDescr
import PyProof.StrBlock2
import KE.KxField
import HandS.StrMore
import HandS.Head0
import HandS.Head1
import HandS.Head2
import PySem.Challenge.RW_menuhouses_k20_tables_of_houses
set_option Elab.async false
set_option linter.all false
set_option maxRecDepth 100000
set_option maxHeartbeats 4000000
/-! Own rules beside the layer: promises that know that no repr is under way (FnG), repr of data, sorted of a tuple of texts, enumerate of a tuple, o.m(k = v). -/
namespace MH
open PySem PySem.Spec PyProof.Rows L2
/-! ### promises of defs that are called while no repr is under way -/
def FnG (P : Program) (w : World) (K : PySem.W.Frag) (mg : Str → Option Value) (base : Heap) (k : Nat) (f : Addr) (sp : Sp) : Prop :=
  ∀ (A : Around) (fr : List Env) (st : Shared) (H : Hp) (us : List Value) (vs : List V) (Q : VK), A.guards = some [] → Room k A → Env0 P w K mg base A fr st H → Vals vs us →
    sp vs H Q E0 → codeAny (model P w) A (.call (.ref f) ⟨us, []⟩) (CR CX0 fr P w H st Q E0) st
section
variable {P : Program} {w : World} {K : PySem.W.Frag} {mg : Str → Option Value} {base : Heap} {k : Nat} {f : Addr} {sp : Sp}
theorem FnG.mono {j : Nat} (F : FnG P w K mg base j f sp) (h : j ≤ k) : FnG P w K mg base k f sp := fun A fr st H us vs Q hg hr => F A fr st H us vs Q hg (hr.mono h)
theorem fg_of {name qual : Str} {pms : Arguments} {body : List Stmt} {sc : Scope} {dV kV doc pm cdv ct oc : Value} {an od : Option Addr} {osl : Array (Option Value)} {N ps : List Str}
    (lk : K.lookup f = some ⟨oc, od, .func (PySem.W.fnOf name qual pms body sc dV kV doc pm an cdv ct), osl⟩) (hc : PySem.W.codeIn K cdv qual = true) (S : FnScope N ps sc)
    (hB : Binds K (PySem.W.fnOf name qual pms body sc dV kV doc pm an cdv ct) ps []) (hlen : ∀ vs H Q E, sp vs H Q E → vs.length = ps.length)
    (hbd : ∀ (A : Around) (fr : List Env) (st : Shared) (H : Hp) (vs : List V) (Q : VK), A.guards = some [] → Room k (A.deeper (envOfC qual sc st.heap.objs.size f cdv)) → sp vs H Q E0 →
      ∃ t, PSs (cxOf CX0 P w K mg base N qual sc f cdv A fr st H E0).nox body t ∧ t { nx := fun _ H' => Q .non H', rt := Q } (start N vs) H) :
    FnG P w K mg base (k + 1) f sp := by
  intro A fr st H us vs Q hg hr e0 r hs
  have hl := hlen _ _ _ _ hs
  have hul : (us ++ []).length = ps.length := by
    rw [List.append_nil, ← r.length, hl]
  have KX : K.In st.heap := e0.mod.kin.keeps fun b o e => (e0.bs b o e).1
  have nl : st.heap.NoLimit := e0.mod.nolimit.keeps fun b o e => (e0.bs b o e).1
  have hk : ∀ y ∈ ps.zip us, sc.names.lookup y.1 = some .local ∨ (sc.names.lookup y.1 = some .cell ∧ ((cellsFrom (st.heap.objs.size + 1) sc.names []).lookup y.1).isSome = true) := by
    intro y hy
    rcases S.par y.1 (List.of_mem_zip hy).1 with q | q
    · exact .inl q
    · exact .inr ⟨q, PySem.W.cellsFrom_some _ _ _ (.inl q)⟩
  have hb2 := hB st us KX hul
  rw [List.append_nil] at hb2
  refine codeAny_call_function hr.depth (KX _ _ lk) rfl S.co S.gen rfl (PySem.W.codeRec_of KX hc) (hb2 _ _ _ _ ?_)
  refine wpAny_newFunctionEnv_cells S.kind hk fun env he s1 x => ?_
  subst he
  refine ⟨nl.keeps x.toInCall.keep, codeAny_func ?_⟩
  obtain ⟨t, ht, hq⟩ := hbd A fr st H vs Q hg (hr.deeper _) hs
  have J : Inv (cxOf CX0 P w K mg base N qual sc f cdv A fr st H E0) [] (start N vs) H s1 := inv_start S hr.hd e0 hl r x
  refine wpAny_mono (ht.nox.run [] s1 (start N vs) H _ J hq) (fun fl s' hz => ?_) fun e s' hz => hz
  cases fl with
  | ret u =>
    obtain ⟨v, σ', H', J', rv, q⟩ := hz
    exact ⟨v, H', J'.os, J'.bare, J'.base, J'.hok, rv, q⟩
  | next =>
    obtain ⟨σ', H', J', q⟩ := hz
    exact ⟨.non, H', J'.os, J'.bare, J'.base, J'.hok, rfl, q⟩
  | brk => exact (hz.choose_spec.choose_spec.2 : False).elim
  | cont => exact (hz.choose_spec.choose_spec.2 : False).elim
/-- the def's rule, by its text -/
theorem fun_g {x qual : Str} {st : Stmt} {fd : FuncData} {N ps : List Str} (F : Fun K x qual st f fd) (S : FnScope N ps (defScope st)) (hB : Binds K fd ps []) (hlen : ∀ vs H Q E, sp vs H Q E → vs.length = ps.length)
    (hbd : ∀ (cdv : Value) (A : Around) (fr : List Env) (s : Shared) (H : Hp) (vs : List V) (Q : VK), A.guards = some [] → Room k (A.deeper (envOfC qual (defScope st) s.heap.objs.size f cdv)) → sp vs H Q E0 →
      ∃ t, PSs (cxOf CX0 P w K mg base N qual (defScope st) f cdv A fr s H E0).nox (defBody st) t ∧ t { nx := fun _ H' => Q .non H', rt := Q } (start N vs) H) :
    FnG P w K mg base (k + 1) f sp := by
  obtain ⟨oc, od, kV, doc, pm, an, cdv, ct, osl, rfl, lk, hc⟩ := F.ex
  exact fg_of lk hc S hB hlen fun A fr s H vs Q hg hr hs => hbd cdv A fr s H vs Q hg hr hs
end
section
variable {X : Cx} {k : Nat} {f : Addr} {sp : Sp} {x : Str} {p pos : Pos} {e : Expr} {es : List Expr} {t : TA}
/-- f(e, ..) -/
theorem pe_callg (F : FnG X.prog X.w X.K X.mg X.base k f sp) (hg : X.A.guards = some []) (hr : Room k X.A) (gl : Gl X x) (hm : X.mg x = some (.ref f)) (hk : PySem.W.keepIn X.K (.ref f) = true)
    (ha : PA X (e :: es) t) (hdb : (x == ("__debug__" : Str)) = false := by decide) (he : starEach (e :: es) X.env = (false, eval e X.env) :: starEach es X.env := by rfl) (hpl : (backTo pos (starEach es X.env)).any (·.1) = false := by rfl) :
    PE X (.Call (.Name x p) (e :: es) [] pos) (tCall sp [] E0 t) := by
  refine ⟨fun pins s σ H Q I h => ?_⟩
  refine wpAny_Call_Name_kw (ld_glob I gl hm ?_ hdb)
  refine PySem.W.callWith_K (h₀ := X.base) I.ok.mod.kin hk (thn (ha.run pos pins s σ H _ I h) fun us s1 ⟨vs, H1, I1, r, q⟩ => ⟨I1.kIn, ?_⟩) he hpl
  have q1 : sp vs H1 Q E0 := by
    have z : sp (vs ++ []) H1 Q E0 := q
    rw [List.append_nil] at z
    exact z
  refine wpAny_call (codeAny_mono (F X.A X.stack s1 H1 us vs Q hg hr I1.env0 r q1) fun r s' hq => ?_)
  match r, hq with
  | .ok (.ret u), hq => exact I1.after hq
  | .ok .next, hq => exact False.elim hq
  | .ok .brk, hq => exact False.elim hq
  | .ok .cont, hq => exact False.elim hq
  | .error _, hq => exact False.elim hq
end
/-! ### repr of data -/
/-! ### sorted of a tuple of texts -/
section
variable {prog : Program} {w : World} {A : Around} {E : Value → Shared → Prop} {s : Shared}
theorem collect_tup {t : Addr} {us : List Value} {Q : List Value → Shared → Prop} (ht : s.heap.IsTuple t us.toArray) (hz : us.length ≤ sizeLine)
    (k : Q us { s with heap := (s.heap.push (seqObj "list" #[] 0)).update s.heap.objs.size (Obj.mapSeq (· ++ us.toArray)) }) :
    wpAny (model prog w) A (collect (.ref t)) Q E s := by
  obtain ⟨o, ho, hc, n, hd⟩ := id ht
  have new0 : ∀ x : Addr, x = s.heap.objs.size → (s.heap.push (seqObj "list" #[] 0)).get? x = some (seqObj "list" #[] 0) := fun x e => by
    rw [e]
    exact Heap.get?_push_size _ rfl
  have old : (s.heap.push (seqObj "list" #[] 0)).get? t = some o := Heap.get?_push_of_some _ ho
  unfold collect
  refine wpAny_bind (wpAny_runValue (codeAny_builtin entry_proto_collect' ?_))
  show wpAny _ _ (newList [] >>= fun l => again (.builtin "list.__iadd__" ⟨[l, .ref t], []⟩)) _ _ s
  refine wpAny_bind (wpAny_newList (wpAny_pure ⟨Code.quiet_builtin _ (by decide +kernel), codeAny_builtin entry_list_iadd' ?_⟩))
  refine (show wpAny _ _ (Builtin.List.listExtendWith (.ref s.heap.objs.size) (.ref t) (.ref s.heap.objs.size)) _ _ { s with heap := s.heap.push (seqObj "list" #[] 0) } from ?_)
  unfold Builtin.List.listExtendWith
  refine wpAny_bind (wpAny_typeOf (T := "tuple") ⟨o, old, hc⟩ ?_)
  have b2 : (Value.type "tuple" == Value.type "tuple") = true := by rfl
  rw [if_pos (by rw [b2]; simp)]
  refine wpAny_bind (listItems_at old hd ?_)
  refine wpAny_bind (listItems_at (xs := #[]) (n := 0) (new0 _ rfl) rfl ?_)
  rw [if_neg (by simp)]
  have hz2 : (#[] ++ us.toArray).size ≤ sizeLine + 1 := by
    simp only [Array.size_append, List.size_toArray, List.length_nil]
    omega
  refine wpAny_bind (listUpdate_at (xs := #[]) (n := 0) (new0 _ rfl) rfl ?_ (Nat.zero_le _) hz2)
  refine wpAny_pure ?_
  refine (show wpAny (model prog w) A (load s.heap.objs.size >>= fun o => match o.data with
      | .seq xs _ => pure xs.toList
      | _ => unsupported "internal:collect") Q E { s with heap := (s.heap.push (seqObj "list" #[] 0)).update s.heap.objs.size (Obj.mapSeq (· ++ us.toArray)) } from ?_)
  refine wpAny_bind (wpAny_load (get?_update_seq (new0 _ rfl) _) ?_)
  have e : ((#[] : Array Value) ++ us.toArray).toList = us := by simp
  refine (show wpAny _ _ (pure ((#[] : Array Value) ++ us.toArray).toList) Q E _ from ?_)
  rw [e]
  exact wpAny_pure k
theorem sorted_tup {t : Addr} {us : List Value} {ss : List Str} {Q : Value → Shared → Prop} (ht : s.heap.IsTuple t us.toArray) (hS : StrsAre us ss) (h64 : us.length < 64)
    (k : ∀ (out : Array Value) (ys : List Str), StrsAre out.toList ys → ys.Perm ss → sortedS ys = true → Q (.ref (s.heap.objs.size + 1)) { s with heap := sortedAll s.heap us out }) :
    wpAny (model prog w) A (call (.builtin "sorted") [.ref t]) Q E s := by
  refine Calls.call_function_entry kind_sorted plain_sorted entry_sorted (args_sorted1 _) ?_
  unfold Builtin.«sorted»
  refine wpAny_bind (m := checkCount "sorted" 1 1 _) (wpAny_pure ?_)
  refine wpAny_bind (collect_tup ht (small64 h64) (wpAny_bind (wpAny_newList ?_)))
  have size1 : ((s.heap.push (seqObj "list" #[] 0)).update s.heap.objs.size (Obj.mapSeq (· ++ us.toArray))).objs.size = s.heap.objs.size + 1 := by
    rw [Heap.size_update, size_push']
  have at1 : (((s.heap.push (seqObj "list" #[] 0)).update s.heap.objs.size (Obj.mapSeq (· ++ us.toArray))).push (seqObj "list" us.toArray 0)).get? (s.heap.objs.size + 1) = some (seqObj "list" us.toArray 0) := by
    rw [← size1]
    exact Heap.get?_push_size _ rfl
  refine (show wpAny _ _ _ _ _ { s with heap := ((s.heap.push (seqObj "list" #[] 0)).update s.heap.objs.size (Obj.mapSeq (· ++ us.toArray))).push (seqObj "list" us.toArray 0) } from ?_)
  rw [size1]
  refine wpAny_bind (wpAny_holding (wpAny_call_entry slot_list_sort ⟨_, at1, rfl⟩ entry_list_sort
    (list_sort_treeK strKind_oneLt at1 hS.keysOf (fun v1 v2 rest e => keyKind_strs (by rw [← e]; exact hS)) h64 fun st hp hs => ⟨_, rfl, ?_⟩) (args_list_sort _)))
  obtain ⟨ys, h1, h2, h3⟩ := sorted_out_str hS hp hs
  exact wpAny_pure ⟨_, rfl, k _ ys h1 h2 h3⟩
end
def rSortedU (K : PySem.W.Frag) : List V → Hp → VK → Prop := fun vs H Q => ∃ (a : Addr) (xs : List Str), vs = [V.ref a] ∧ SqT K H a (xs.map V.str) ∧ xs.length < 64 ∧ ∀ (ys : List Str) (p : Addr), ys.Perm xs → sortedS ys = true → H p = none → Q (.ref p) (upd H p (.lst (ys.map V.str)))
section
variable {X : Cx}
theorem cr_sortedU : CallR X (.builtin "sorted") (rSortedU X.K) := by
  intro pins s σ H vs us Q I r h
  obtain ⟨a, xs, rfl, hs, h64, q⟩ := h
  obtain ⟨its, rv, ht, _⟩ := I.tuple hs
  rw [Vals.ref1 r]
  have hl0 : xs.length = its.length := by
    have z := rv.length
    rw [List.length_map] at z
    exact z
  refine sorted_tup (s := s) ht rv.strs (hl0 ▸ h64) fun out ys h1 h2 h3 => ?_
  obtain ⟨ep, he⟩ := sortedAll_at s.heap its out
  have hz : (ys.map V.str).length ≤ sizeLine := by
    rw [List.length_map, h2.length_eq]
    exact small64 h64
  refine ⟨.ref _, upd H (s.heap.objs.size + 1) (.lst (ys.map V.str)), ?_, rfl, q ys _ h2 h3 (I.hok.fresh (Nat.le_succ _))⟩
  exact I.laid (t' := s.toks) (fun _ _ => sortedAll_old) (Nat.le_succ _) ⟨hz, out.toList, ep, vals_of_strs h1, he⟩
end
/-! ### enumerate of a tuple -/
theorem enum_tup_new {t : Addr} {items : Array Value} : Meets (Builtin.«enumerate.__new__» ⟨[.type "enumerate", .ref t], []⟩) (fun _ R s => s.heap.IsTuple t items ∧
      R (.ok (.ret (.ref (s.heap.push { cls := .type "tuple_iterator", data := .fields #[.ref t, .int 0 0] }).objs.size)))
        { s with heap := (s.heap.push { cls := .type "tuple_iterator", data := .fields #[.ref t, .int 0 0] }).push { cls := .type "enumerate", data := .fields #[.none, .bool false, .ref s.heap.objs.size, rawInt 0, .none, .none] } }) :=
  .of_wp fun prog w A R s h => by
    obtain ⟨hp, g, d, tk, os⟩ := s
    obtain ⟨hT, k⟩ := h
    have hsub := sub_enumerate
    have it : ∀ {A' : Around} {E Q : Value → Shared → Prop}, Q (.ref hp.objs.size) ⟨hp.push { cls := .type "tuple_iterator", data := .fields #[.ref t, .int 0 0] }, g, d, tk, os⟩ → wpAny (model prog w) A' (pyIter (.ref t)) Q E ⟨hp, g, d, tk, os⟩ :=
      fun q => wpAny_pyIter_tuple (items := items) hT q
    wp_walk using it
    refine wpAny_stack_any fun st => wpAny_pure ?_
    split
    · rename_i c _ _ _ _ _
      cases (c == Value.type "enumerate") <;> (wp_walk using it; exact ⟨_, rfl, k⟩)
    · wp_walk using it
      exact ⟨_, rfl, k⟩
section
variable {prog : Program} {w : World} {A : Around} {E : Value → Shared → Prop} {s : Shared}
theorem call_enum_tup {t : Addr} {items : Array Value} {Q : Value → Shared → Prop} (hT : s.heap.IsTuple t items)
    (k : ∀ h', IsEnum h' (s.heap.objs.size + 1) s.heap.objs.size 0 .none → h'.IsTupleIter s.heap.objs.size t 0 → h'.objs.size = s.heap.objs.size + 2 →
      (∀ b o, s.heap.get? b = some o → h'.get? b = some o) → Q (.ref (s.heap.objs.size + 1)) { s with heap := h' }) :
    wpAny (model prog w) A (call (.type "enumerate") [.ref t]) Q E s := by
  refine callType_new F.called_enumerate (by decide) (F.typeCall_enumerate_1 _) (F.newCall_enumerate_1 _) (fun obj => F.args_object_init_2 obj _) F.entry_enumerate_new enum_tup_new ⟨hT, ?_⟩
  have hz : (s.heap.push { cls := .type "tuple_iterator", data := .fields #[.ref t, .int 0 0] }).objs.size = s.heap.objs.size + 1 := Heap.size_push ..
  refine (show _ ∧ _ from ?_)
  rw [hz]
  have he := Heap.get?_push_size (s.heap.push { cls := .type "tuple_iterator", data := .fields #[.ref t, .int 0 0] }) (o := { cls := .type "enumerate", data := .fields #[.none, .bool false, .ref s.heap.objs.size, rawInt 0, .none, .none] }) rfl
  rw [hz] at he
  refine ⟨⟨_, he, rfl⟩, k _ he ⟨_, Heap.get?_push_of_some _ (Heap.get?_push_size _ rfl), rfl, rfl⟩ ?_ fun b o x => Heap.get?_push_of_some _ (Heap.get?_push_of_some _ x)⟩
  rw [Heap.size_push, hz]
end
theorem wpAny_pyNext_enum_none {prog : Program} {w : World} {A : Around} {E : Value → Shared → Prop} {s : Shared} {e it t : Addr} {i : Nat} {items : Array Value} {old : Value} {Q : Option Value → Shared → Prop} (hh : A.in1.handled = none) (he : IsEnum s.heap e it i old) (hit : s.heap.IsTupleIter it t i) (ht : s.heap.IsTuple t items)
    (hx : items[i]? = none) (k : ∀ h', Heap.ExtBut it s.heap h' → Q none { s with heap := h' }) : wpAny (model prog w) A (pyNext (.ref e)) Q E s := by
  have ty : s.TypeIs (.ref e) "enumerate" := ⟨_, he, rfl⟩
  unfold pyNext
  refine wpAny_bind (wpAny_attempt (wpAny_callSpecial?_slot (name := Str.ofString "__next__") ty F.slot_enumerate_next
    (wpAny_call_entry F.slot_enumerate_next ty F.entry_enumerate_next ?_ (F.args_enumerate_next_1 _))))
  refine (show wpAny _ _ (field (.ref e) 2 >>= _) _ _ _ from ?_)
  refine wpAny_bind (wpAny_field he rfl (x := .ref it) rfl ?_)
  refine wpAny_bind (wpAny_nextOf_tuple_end hh hit ht hx fun h' x eb hx' => ?_)
  obtain ⟨o, ho, hc⟩ := hx'
  refine wpAny_bind (wpAny_isInstance (T := "StopIteration") (b := true) ⟨o, ho, hc⟩ isSubtype_stop ?_)
  exact wpAny_pure (k _ eb)
/-- the tuple at a, each item in a new pair behind its index -/
def IteT (K : PySem.W.Frag) (a : Addr) : It where
  go := fun i H => ∃ xs x, SqT K H a xs ∧ xs[i]? = some x
  yld := fun i H v H' => ∃ T x, v = .ref T ∧ H T = none ∧ H' = upd H T (.tup [.int (i : Nat), x]) ∧ ∀ xs, SqT K H a xs → xs[i]? = some x
  stop := fun i H => ∃ xs, SqT K H a xs ∧ xs.length ≤ i
theorem turn_enumT {P : Program} {w : World} {K : PySem.W.Frag} {elts : List Expr} {kk : Nat} {tpos : Pos} (a e it : Addr) :
    Turn P w K (.Tuple elts kk tpos) (IteT K a) [e, it] e (fun i h => (∃ old, IsEnum h e it ((i : Nat) : Int) old) ∧ h.IsTupleIter it a i ∧ e ≠ it) where
  mem := List.mem_cons_self
  obj := by
    rintro i h ⟨⟨old, he⟩, ⟨o, ho, hc, hd⟩, _⟩ b hb
    have e' : b = e ∨ b = it := by simpa using hb
    rcases e' with rfl | rfl
    · exact ⟨_, he, fun v q => nomatch q⟩
    · refine ⟨o, ho, fun v q => ?_⟩
      rw [hd] at q
      cases q
  keep := fun i h h' st k => ⟨⟨st.1.choose, k e (by simp) _ st.1.choose_spec⟩, st.2.1.at fun o q => k it (by simp) o q, st.2.2⟩
  item := by
    intro X hP hw hK hc i pins s σ H E I hf st hg
    subst hP hw hK
    obtain ⟨⟨old, he⟩, hit, hne⟩ := st
    obtain ⟨xs, x, hq, hx⟩ := hg
    obtain ⟨its, rv, p, hz⟩ := I.tuple hq
    obtain ⟨u, hu, ru⟩ := rv.get hx
    have hel : e < s.heap.objs.size := Heap.lt_size he
    have hil : it < s.heap.objs.size := by
      obtain ⟨_, q, _⟩ := hit
      exact Heap.lt_size q
    obtain ⟨ot, hot, hct, _⟩ := id (show s.heap.IsTuple a its.toArray from p)
    have hae : e ≠ a := fun q => by
      have z : s.heap.get? e = some ot := q ▸ hot
      rw [he] at z
      cases z
      exact absurd (show Value.type "enumerate" = Value.type "tuple" from hct) (by decide)
    have hait : a ≠ it := fun q => by
      obtain ⟨o2, h2, c2, _⟩ := hit
      rw [← q, hot] at h2
      cases h2
      rw [hct] at c2
      exact absurd c2 (by decide)
    have hlt : i < its.toArray.size := by
      have := (List.getElem?_eq_some_iff.mp hu).1
      simpa using this
    have hh : X.A.in1.handled = none := I.ok.hd hc
    refine wpAny_pyNext_enum_itemD (Draws.tuple hh it a hait its.toArray) he ⟨hit, p⟩ hlt hne (by simp [hne, hae]) fun y h' tk hy ho hst hT hsz hk => ?_
    have hyu : y = u := by
      have z : its.toArray[i]? = some y := hy
      rw [List.getElem?_toArray, hu] at z
      exact (Option.some.inj z).symm
    subst hyu
    refine ⟨_, rfl, wpAny_letOwnedTupleGo_enum (s := { s with heap := h', toks := tk + 1 }) ho fun h'' he' sb => ?_⟩
    have hT2 : h''.get? s.heap.objs.size = some { cls := .type "tuple", data := .seq #[.int i tk, y] } := (sb.2 _ (Nat.ne_of_gt hel)).trans hT
    have new : ObjOk X.prog X.w (upd H s.heap.objs.size (.tup [.int (i : Nat), x])) h'' s.heap.objs.size (.tup [.int (i : Nat), x]) :=
      ⟨(by decide : 2 ≤ sizeLine), [.int i tk, y], .cons ⟨_, rfl⟩ (.cons ru .nil), ⟨_, hT2, rfl, _, rfl⟩⟩
    have I1 : Inv X pins σ (upd H s.heap.objs.size (.tup [.int (i : Nat), x])) { s with heap := h'', toks := tk + 1 } := by
      refine I.turnedNew (ch := [e, it]) (fun b ob hb q => ?_) hf (Nat.le_refl _) new
      rw [sb.2 b (fun z => hb (by simp [z]))]
      exact hk b ob (fun z => hb (by simp [z])) (fun z => hb (by simp [z])) q
    refine ⟨.ref s.heap.objs.size, _, I1, rfl, ⟨_, x, rfl, I.hok.fresh (Nat.le_refl _), rfl, fun ys hy => by rw [I.tuple_inj hy hq]; exact hx⟩, ⟨⟨y, ?_⟩, ?_, hne⟩, fun b hb => ?_⟩
    · rw [show ((i + 1 : Nat) : Int) = (i : Int) + 1 from by omega]
      exact he'
    · exact hst.1.at fun o q => (sb.2 it (Ne.symm hne)).trans q
    · have hb' : b < s.heap.objs.size := by
        have e' : b = e ∨ b = it := by simpa using hb
        rcases e' with z | z
        · rw [z]
          exact hel
        · rw [z]
          exact hil
      rw [upd_ne (Nat.ne_of_lt hb')]
      exact (hf b hb).1
  done := by
    intro X hP hw hK hc i pins s σ H E I hf st hg
    subst hP hw hK
    obtain ⟨⟨old, he⟩, hit, hne⟩ := st
    obtain ⟨xs, hq, hx⟩ := hg
    obtain ⟨its, rv, p, hz⟩ := I.tuple hq
    obtain ⟨f0, f1, f2, f3, f4, f5⟩ := hf it (by simp)
    have hh : X.A.in1.handled = none := I.ok.hd hc
    have hl := rv.length
    obtain ⟨ot, hot, hct, _⟩ := id (show s.heap.IsTuple a its.toArray from p)
    have hait : a ≠ it := fun q => by
      obtain ⟨o2, h2, c2, _⟩ := hit
      rw [← q, hot] at h2
      cases h2
      rw [hct] at c2
      exact absurd c2 (by decide)
    refine wpAny_pyNext_enum_none hh he hit p (by simp; omega) fun h' eb => ⟨rfl, I.turned (t' := s.toks) (fun b o hb q => eb b o hb q) f0 f1 f3 f4 f5⟩
  self := fun A i s Q E st h => wpAny_pyIter_enum st.1.choose_spec h
def iEnumT (K : PySem.W.Frag) (ta : TA) : TI := fun σ H R => ta σ H fun vs H1 => ∃ a xs, vs = [.ref a] ∧ SqT K H1 a xs ∧ R (IteT K a) H1
theorem pi_enumT {X : Cx} {e : Expr} {ta : TA} {p pos tpos : Pos} {elts : List Expr} {kk : Nat} (hg : Gl X "enumerate") (hm : X.mg "enumerate" = none) (ha : PA X [e] ta) (hs : starEach [e] X.env = [(false, eval e X.env)] := by rfl) :
    PI X (.Tuple elts kk tpos) (.Call (.Name "enumerate" p) [e] [] pos) (iEnumT X.K ta) := by
  refine ⟨fun pins s σ H R I h => ?_⟩
  refine Call_ (ld_blt I hg hm boot_enumerate (PyProof.Rows.callWith_type1 (thn (ha.run pos pins s σ H _ I h) fun us s1 ⟨vs, H1, I1, r1, a, xs, ex, hq, q⟩ => ?_) hs rfl))
  subst ex
  obtain ⟨u, rfl, ru⟩ := vals1 r1
  obtain rfl : u = Value.ref a := ru
  obtain ⟨its, rv, p', hz⟩ := I1.tuple hq
  refine call_enum_tup (show s1.heap.IsTuple a its.toArray from p') fun h' he hit hsz hk => wpAny_pyIter_enum he ?_
  have I2 : Inv X pins σ H1 { s1 with heap := h' } := I1.kept (t' := s1.toks) hk
  refine ⟨s1.heap.objs.size + 1, [s1.heap.objs.size + 1, s1.heap.objs.size], _, _, H1, rfl, I2, turn_enumT a (s1.heap.objs.size + 1) s1.heap.objs.size, ⟨⟨.none, he⟩, hit, Nat.succ_ne_self _⟩, fun b hb => ?_, q⟩
  have e' : b = s1.heap.objs.size + 1 ∨ b = s1.heap.objs.size := by simpa using hb
  have hle : s1.heap.objs.size ≤ b := by
    rcases e' with z | z
    · rw [z]
      exact Nat.le_succ _
    · rw [z]
      exact Nat.le_refl _
  exact I1.fpOk hle (I1.hok.fresh hle)
/-! ### o.m(k = v, ..) -/
/-! ### tuples that are known to the object: their methods -/
def TupO (H : Hp) (a : Addr) (xs : List V) : Prop := ∃ o : Obj, H a = some (.frz o (.tup xs)) ∧ o.dict = none
theorem TupO.sqt {K : PySem.W.Frag} {H : Hp} {a : Addr} {xs : List V} (h : TupO H a xs) : SqT K H a xs := .inl (.inr ⟨_, h.choose_spec.1⟩)
theorem TupO.same {H H' : Hp} {a : Addr} {xs : List V} (h : TupO H a xs) (s : ∀ b o, H b = some o → H' b = some o) : TupO H' a xs := ⟨_, s _ _ h.choose_spec.1, h.choose_spec.2⟩
/-- tuple(list): a new one; tuple(tuple): itself -/
def rTupF (K : PySem.W.Frag) : List V → Hp → VK → Prop := fun xs H Q => ∃ p ys, xs = [.ref p] ∧ ((SqL K H p ys ∧ ∀ (l : Addr) (o : Obj), H l = none → o.dict = none → Q (.ref l) (upd H l (.frz o (.tup ys)))) ∨ (SqT K H p ys ∧ Q (.ref p) H))
def tTupM (r : V → List V → Hp → VK → Prop) (to : TE) (t : TA) : TE := fun σ H Q => to σ H fun x H1 => (∃ a xs, x = .ref a ∧ TupO H1 a xs) ∧ t σ H1 fun vs H2 => r x vs H2 Q
section
variable {X : Cx} {o e : Expr} {es : List Expr} {to : TE} {t : TA} {name : Str} {apos cpos : Pos} {id : String} {r : V → List V → Hp → VK → Prop}
theorem call_tupF : CallR X (.type "tuple") (rTupF X.K) := by
  intro pins s σ H xs us Q I r h
  obtain ⟨p, ys, rfl, h⟩ := h
  obtain ⟨u, rfl, rx⟩ := vals1 r
  obtain rfl : u = Value.ref p := rx
  rcases h with ⟨hq, q⟩ | ⟨hq, q⟩
  · obtain ⟨its, rv, pl, hz⟩ := I.list hq
    have hl := rv.length
    refine call_tuple_list pl.isList (fun h' kp => ?_) (by simp only [List.size_toArray]; omega)
    have I1 : Inv X pins σ H { s with heap := h' } := I.kept (t' := s.toks) kp
    have at1 := Heap.get?_push_size h' (o := { cls := .type "tuple", data := .seq its.toArray }) rfl
    have I2 : Inv X pins σ (upd H h'.objs.size (.frz { cls := .type "tuple", data := .seq its.toArray } (.tup ys))) { s with heap := h'.push { cls := .type "tuple", data := .seq its.toArray } } :=
      I1.laid (t' := s.toks) (fun b o e => Heap.get?_push_of_some _ e) (Nat.le_refl _) ⟨at1, hz, its, rv, IsTup.new _ _⟩
    exact ⟨.ref h'.objs.size, _, I2, rfl, q _ _ (I1.hok.fresh (Nat.le_refl _)) rfl⟩
  · obtain ⟨its, rv, pl, hz⟩ := I.tuple hq
    exact call_tuple_same pl ⟨.ref p, H, I, rfl, q⟩
theorem pe_tupM (slot : Slot "tuple" name id) (hty : typeOf (.builtin id) = pure (.type "method_descriptor")) (hm : MtR X id r) (ho : PE X o to) (ha : PA X (e :: es) t)
    (hbase : attributeBase o name X.env (eval o X.env) = eval o X.env := by rfl)
    (hfew : ((backTo cpos (starEach (e :: es) X.env)).all (fun x => !x.1) && (backToKw cpos (keywordEach [] X.env)).all (fun x => x.1.isSome)
      && decide ((e :: es).length + ([] : List Keyword).length + (if ([] : List Keyword).isEmpty then 0 else 1) < 30)) = true := by rfl)
    (hline : (apos.endLine == cpos.line) = true := by rfl) (hs : starEach (e :: es) X.env = (false, eval e X.env) :: starEach es X.env := by rfl) (hp : (backTo cpos (starEach es X.env)).any (·.1) = false := by rfl) :
    PE X (.Call (.Attribute o name apos) (e :: es) [] cpos) (tTupM r to t) := by
  refine ⟨fun pins s σ H Q I h => ?_⟩
  refine wpAny_Call_method_late hbase hfew hline rfl (thn (ho.run pins s σ H _ I h) fun v s1 ⟨x, H1, I1, r1, ⟨a, xs, ex, ob, ea, ed⟩, q1⟩ => ?_)
  subst ex
  obtain rfl : v = Value.ref a := r1
  obtain ⟨g1, _, _, _, og, hog, hcg, _⟩ := (show ObjOk X.prog X.w H1 s1.heap a (.frz ob (.tup xs)) from I1.hok a _ ea)
  refine ⟨"tuple", id, PySem.F.plainAttrs_tuple, slot, hty, ⟨og, hog, hcg⟩, fun b hb => ?_, ?_⟩
  · cases hb
    exact ⟨ob, g1, ed⟩
  · have hA := ha.run cpos pins s1 σ H1 _ I1 q1
    rw [hs] at hA ⊢
    refine Calls.callWith_builtin (show (false || (backTo cpos (starEach es X.env)).any (·.1)) = false from by rw [hp]; rfl) (Calls.evalArgs_plain ?_)
    exact thn hA fun us s2 ⟨vs, H2, I2, r2, q2⟩ => hm pins s2 σ H2 (.ref a) vs (.ref a) us Q I2 rfl r2 q2
end
/-! ### the end of a law whose def is promised while no repr is under way -/
theorem law_callg {P : Program} {w : World} {K : PySem.W.Frag} {mg mb : Str → Option Value} {k : Nat} {fa a : Addr} {sp : Sp} {st : Shared} {us : List Value} {ns : List Int}
    (KX : K.In st.heap) (hn : st.heap.Ns mainGlobals mg) (hb : st.heap.Ns builtinsNs mb) (hbb : ∀ x : Str, x ≠ "__name__" → mb x = bootBuiltins x) (nl : st.heap.NoLimit) (hgens : st.gens = #[])
    (ha : st.heap.get? a = some { cls := .type "list", data := .seq us.toArray }) (hi : IntsAre us ns) (hz : ns.length ≤ sizeLine) (hr : Room k callerA)
    (F : ∀ base : Heap, K.In base → base.Ns mainGlobals mg → FnG P w K mg base k fa sp)
    (hsp : ∀ H : Hp, SqL K H a (ns.map V.int) → sp [.ref a] H (fun v _ => v = .bl true) E0) :
    codeAny (model P w) callerA (.call (.ref fa) ⟨[.ref a], []⟩) (fun r s' => r = .ok (.ret (.bool true)) ∧ OldK st.heap s'.heap ∧ s'.os = st.os ∧ AllBare s'.gens) st := by
  have rv := vals_ints hi
  have hlen := hi.length
  have key : ∀ H : Hp, Only H → SqL K H a (ns.map V.int) → HOk P w H st.heap → (∀ b, H b ≠ none → b = a) → (H a ≠ none → K.lookup a = none) →
      codeAny (model P w) callerA (.call (.ref fa) ⟨[.ref a], []⟩) (fun r s' => r = .ok (.ret (.bool true)) ∧ OldK st.heap s'.heap ∧ s'.os = st.os ∧ AllBare s'.gens) st := by
    intro H hO hS hok hA hK
    have offD : ∀ {b : Addr} {o : Obj} {es : Array DictEntry} {ep : Nat}, st.heap.get? b = some o → o.data = .dict es ep → H b = none := by
      intro b o es ep e d
      cases q : H b with
      | none => rfl
      | some v =>
        obtain rfl : b = a := hA b (by rw [q]; simp)
        rw [ha] at e
        cases e
        exact nomatch d
    have offK : ∀ {b : Addr} {o : Obj}, K.lookup b = some o → H b = none := by
      intro b o e
      cases q : H b with
      | none => rfl
      | some v =>
        obtain rfl : b = a := hA b (by rw [q]; simp)
        rw [hK (by rw [q]; simp)] at e
        cases e
    have toNs : ∀ {b : Addr} {m : Str → Option Value}, st.heap.Ns b m → (hidT st.heap H).Ns b m := fun ⟨o, es, ep, e, d, r⟩ => ⟨o, es, ep, hidT_get e (offD e d), d, r⟩
    have kb : K.In (hidT st.heap H) := fun b o e => hidT_get (KX b o e) (offK e)
    obtain ⟨mc, l1, l2⟩ := nl
    have M : Mod K mg (hidT st.heap H) := ⟨kb, toNs hn, ⟨mb, toNs hb, hbb⟩, ⟨mc, toNs l1, l2⟩⟩
    have e0 : Env0 P w K mg (hidT st.heap H) callerA [] st H :=
      ⟨rfl, M, fun b o e => of_hidT e, Nat.le_of_eq (hidT_size _ _), trivial, fun b hb => absurd (show b ∈ ([] : List Addr) from hb) (by simp), hok, .of_eq hgens⟩
    refine codeAny_mono (F _ kb (toNs hn) callerA [] st H [.ref a] [.ref a] _ rfl hr e0 (.cons rfl .nil) (hsp H hS)) fun r s' h => ?_
    match r, h with
    | .error e, h => exact h.elim
    | .ok .next, h => exact h.elim
    | .ok .brk, h => exact h.elim
    | .ok .cont, h => exact h.elim
    | .ok (.ret u), h =>
      obtain ⟨v, H', os, bare, un, hok', rr, q⟩ := h
      obtain rfl : v = .bl true := q
      obtain rfl : u = Value.bool true := rr
      refine ⟨rfl, OldK.of_keep fun b o e => ?_, os, bare⟩
      cases q : H b with
      | none => exact un.keep b o e q (fun z => absurd (show b ∈ ([] : List Addr) from z) (by simp)) (by simp)
      | some v =>
        rcases hO b with z | ⟨ob, xs, z⟩
        · rw [q] at z
          cases z
        · obtain ⟨g1, _⟩ := hok b _ z
          obtain ⟨g2, _⟩ := hok' b _ (un.frzs b ob _ z)
          rw [e] at g1
          cases g1
          exact g2
  cases hk : K.lookup a with
  | some o =>
    have e := KX a o hk
    rw [ha] at e
    cases e
    refine key (fun _ => none) (fun _ => .inl rfl) (.inr ⟨_, us.toArray, _, hk, rfl, rfl, rfl, ?_, by simpa using rv⟩) (fun b u z => nomatch z) (fun b z => absurd rfl z) fun z => absurd rfl z
    rw [List.size_toArray, hlen]
    exact hz
  | none =>
    let T : HO := .frz { cls := .type "list", data := .seq us.toArray } (.lst (ns.map V.int))
    refine key (fun b => if b = a then some T else none) (fun b => ?_) (.inl (.inr ⟨_, if_pos rfl⟩)) (fun b u z => ?_) (fun b z => ?_) fun _ => hk
    · by_cases hb : b = a
      · exact .inr ⟨_, _, if_pos hb⟩
      · exact .inl (if_neg hb)
    · by_cases hb : b = a
      · subst hb
        have z' := (if_pos rfl).symm.trans z
        cases z'
        exact ⟨ha, by rw [List.length_map]; exact hz, us, _, rv, ha⟩
      · have z' := (if_neg hb).symm.trans z
        cases z'
    · by_cases hb : b = a
      · exact hb
      · exact absurd (if_neg hb) z
theorem walk_g {l : PySem.W.OpenLaw} {n k : Nat} {q : Program} {loose : List Str} {XP : (Str → Option Value) → Heap → Prop} {YP : World → Heap → Prop} {d : DefRec} {K : Params → PySem.W.Frag} {sp : PySem.W.Frag → Sp}
    (hn : l.most = some n) (hn2 : n ≤ sizeLine) (hdf : d.params.defaults = []) (hr : Room k callerA) (hY : ∀ (w : World) (h : Heap), YP w h → (K w.params).In h)
    (F : ∀ (w : World) (mg : Str → Option Value) (fa : Addr) (h : Heap), (K w.params).In h → h.Ns mainGlobals mg → mg d.name = some (.ref fa) →
      ∀ base : Heap, (K w.params).In base → base.Ns mainGlobals mg → FnG l.prog w (K w.params) mg base k fa (sp (K w.params)))
    (hsp : ∀ (K : PySem.W.Frag) (H : Hp) (a : Addr) (ns : List Int), ns.length ≤ n → SqL K H a (ns.map V.int) → sp K [.ref a] H (fun v _ => v = .bl true) E0) :
    PySem.W.WalkO q loose XP YP l.row.toRowW d [] (fun f vs => PySem.call f vs) := by
  refine Att.attach_call hn hdf fun w s₀ s₁ mg mb fa o pm cd doc a vs ns G Y ho hd hcd hmg hobj hints hlen hg => ?_
  have KX := hY w _ Y
  exact law_callg KX G.T.g G.T.b G.T.builtins G.T.nolimit hg hobj hints (Nat.le_trans hlen hn2) hr (F w mg fa _ KX G.T.g hmg) fun H hS => hsp _ H a ns hlen hS
end MH
/-! Comprehensions by what their values are. -/
namespace MH
open PySem PySem.Spec PyProof.Rows L2
/-- all but lists stands -/
def SameO (H H' : Hp) : Prop := ∀ b o, (∀ l, o ≠ .lst l) → H b = some o → H' b = some o
theorem SameO.of {H H' : Hp} (s : Same H H') : SameO H H' := fun b o _ e => s b o e
theorem SameO.refl (H : Hp) : SameO H H := fun _ _ _ e => e
theorem SameO.trans {H H1 H2 : Hp} (a : SameO H H1) (b : SameO H1 H2) : SameO H H2 := fun c o n e => b c o n (a c o n e)
theorem SameO.put {H H1 : Hp} {D : Addr} {l : List V} {o : HO} (s : SameO H H1) (h : H1 D = some (.lst l)) : SameO H (upd H1 D o) := fun b x n e => by
  have e1 := s b x n e
  rw [upd_ne (ne_of e1 h (fun q => n l q))]
  exact e1
theorem SameO.sqt {K : PySem.W.Frag} {H H' : Hp} {a : Addr} {xs : List V} (s : SameO H H') (h : SqT K H a xs) : SqT K H' a xs := by
  rcases h with (h | ⟨o, h⟩) | h
  · exact .inl (.inl (s _ _ (fun l q => by cases q) h))
  · exact .inl (.inr ⟨o, s _ _ (fun l q => by cases q) h⟩)
  · exact .inr h
/-- what a comprehension leaves to be shown -/
abbrev LcQ (J : It) (g : TG) (tt : TT) (te : TE) (vs : List Nat) (σ : L2.St) (H1 : Hp) (D : Addr) (Qd : Hp → Prop) : Prop :=
  ∃ W : Nat → Nat → Hp → Prop, (∃ m, W 0 m (upd H1 D (.lst []))) ∧
    ∀ i m H, W i m H → (J.stop i H ∧ Qd H) ∨ (J.go i H ∧
      ∃ Nx : Hp → Prop, (∀ H', Nx H' → ∃ m', m' < m ∧ W (i + 1) m' H') ∧
        ∀ x H', J.yld i H x H' → g x (wipe σ vs) H' fun σ2 H2 => wipe σ2 vs = wipe σ vs ∧
          tt σ2 H2 fun b H3 => if b = true
            then te σ2 H3 fun y H4 => ∃ acc, H4 D = some (.lst acc) ∧ acc.length < sizeLine ∧ Nx (upd H4 D (.lst (acc ++ [y])))
            else Nx H3)
section
variable {J : It} {n : Nat} {G : Hp → Prop} {Y : Nat → Hp → V → Hp → Prop} {g : TG} {te : TE} {vs : List Nat} {σ : L2.St} {H1 : Hp} {D : Addr} {Qd : Hp → Prop}
/-- the general one: St stands throughout, the i-th value keeps R i -/
theorem lcg (w : Walk J n G Y) (St : Hp → Prop) (R : Nat → V → Hp → Prop) (nD : H1 D = none) (hn : n < 100000) (S0 : St (upd H1 D (.lst []))) (SD : ∀ H l zs, St H → H D = some (.lst l) → St (upd H D (.lst zs)))
    (hG : ∀ H', St H' → G H') (hY : ∀ i H x H', St H → Y i H x H' → Same H H') (hm : ∀ i v H H', R i v H → SameO H H' → R i v H')
    (hs : ∀ i x H H', i < n → St H → Y i H x H' → (∃ l, H' D = some (.lst l)) → ∀ Z : V → Hp → Prop, (∀ v H2, St H2 → SameO H' H2 → H2 D = H' D → R i v H2 → Z v H2) →
      g x (wipe σ vs) H' fun σ2 H2 => wipe σ2 vs = wipe σ vs ∧ te σ2 H2 Z)
    (hd : ∀ H' zs, St H' → H' D = some (.lst zs) → zs.length = n → (∀ i v, zs[i]? = some v → R i v H') → Qd H') : LcQ J g tYes te vs σ H1 D Qd := by
  refine lc_it w (fun i H => St H ∧ ∃ zs, H D = some (.lst zs) ∧ zs.length = i ∧ ∀ i v, zs[i]? = some v → R i v H) ⟨S0, [], upd_same, rfl, fun i v h => nomatch ((List.getElem?_nil (α := V) (i := i)).symm.trans h)⟩ (fun i H _ h => hG H h.1) ?_ ?_
  · rintro i x H H' hi ⟨st, zs, e, le, hz⟩ y
    have s := hY i H x H' st y
    refine hs i x H H' hi st y ⟨zs, s _ _ e⟩ _ fun v H2 st2 so eD hR => ?_
    have e2 : H2 D = some (.lst zs) := eD.trans (s _ _ e)
    have so2 : SameO H2 (upd H2 D (.lst (zs ++ [v]))) := (SameO.refl H2).put e2
    refine ⟨zs, e2, Nat.lt_of_lt_of_le (by omega : zs.length < 100000) (by decide), SD _ _ _ st2 e2, zs ++ [v], upd_same, by rw [List.length_append, le]; rfl, fun j u hj => ?_⟩
    by_cases c : j < zs.length
    · rw [List.getElem?_append_left c] at hj
      exact hm _ _ _ _ (hz j u hj) ((SameO.of s).trans (so.trans so2))
    · rw [List.getElem?_append_right (by omega)] at hj
      have ej : j - zs.length = 0 := by
        cases q : j - zs.length with
        | zero => rfl
        | succ n =>
          rw [q] at hj
          cases hj
      rw [ej] at hj
      obtain rfl : v = u := Option.some.inj hj
      obtain rfl : j = i := by omega
      exact hm _ _ _ _ hR so2
  · rintro H ⟨st, zs, e, le, hz⟩
    exact hd H zs st e le hz
/-- new things are made, nothing else changes -/
theorem lco (w : Walk J n G Y) (R : Nat → V → Hp → Prop) (nD : H1 D = none) (hn : n < 100000) (hG : ∀ H', Same H1 H' → G H') (hY : ∀ i H x H', Same H1 H → Y i H x H' → Same H H') (hm : ∀ i v H H', R i v H → SameO H H' → R i v H')
    (hs : ∀ i x H H', i < n → Same H1 H → Y i H x H' → ∀ Z : V → Hp → Prop, (∀ v H2, Same H' H2 → R i v H2 → Z v H2) →
      g x (wipe σ vs) H' fun σ2 H2 => wipe σ2 vs = wipe σ vs ∧ te σ2 H2 Z)
    (hd : ∀ H' zs, Same H1 H' → H' D = some (.lst zs) → zs.length = n → (∀ i v, zs[i]? = some v → R i v H') → Qd H') : LcQ J g tYes te vs σ H1 D Qd := by
  refine lcg w (fun H => Same H1 H ∧ ∃ l, H D = some (.lst l)) R nD hn ⟨fun b o h => ?_, _, upd_same⟩ (fun H l zs h e => ⟨fun b o hb => ?_, _, upd_same⟩) (fun H' h => hG H' h.1) (fun i H x H' h y => hY i H x H' h.1 y) hm (fun i x H H' hi h y _ Z hZ => ?_) (fun H' zs h e le hz => hd H' zs h.1 e le hz)
  · rw [upd_ne (ne_of_none h nD)]
    exact h
  · rw [upd_ne (ne_of_none hb nD)]
    exact h.1 b o hb
  · obtain ⟨s, l, e⟩ := h
    have s' := hY i H x H' s y
    refine hs i x H H' hi s y Z fun v H2 s2 hR => hZ v H2 ⟨s.trans (s'.trans s2), l, s2 _ _ (s' _ _ e)⟩ (SameO.of s2) ?_ hR
    rw [s2 _ _ (s' _ _ e), s' _ _ e]
/-- the values are known -/
theorem lcv {α : Type} (w : Walk J n G Y) (us : List α) (f : α → V) (hl : us.length = n) (nD : H1 D = none) (hn : n < 100000) (hG : ∀ H', Same H1 H' → G H') (hY : ∀ i H x H', Same H1 H → Y i H x H' → Same H H')
    (hs : ∀ i u x H H', us[i]? = some u → Same H1 H → Y i H x H' → ∀ Z : V → Hp → Prop, (∀ H2, Same H' H2 → Z (f u) H2) →
      g x (wipe σ vs) H' fun σ2 H2 => wipe σ2 vs = wipe σ vs ∧ te σ2 H2 Z)
    (hd : ∀ H', Same H1 H' → H' D = some (.lst (us.map f)) → Qd H') : LcQ J g tYes te vs σ H1 D Qd := by
  refine lco w (fun i v _ => (us.map f)[i]? = some v) nD hn hG hY (fun i v H H' h _ => h) (fun i x H H' hi s y Z hZ => ?_) (fun H' zs s e le hz => hd H' s ?_)
  · have hu : us[i]? = some (us[i]'(by omega)) := List.getElem?_eq_getElem _
    refine hs i _ x H H' hu s y Z fun H2 s2 => hZ _ H2 s2 ?_
    rw [List.getElem?_map, hu]
    rfl
  · have ez : zs = us.map f := by
      refine List.ext_getElem? fun i => ?_
      cases q : zs[i]? with
      | some v => exact (hz i v q).symm
      | none =>
        rw [List.getElem?_eq_none_iff] at q
        exact (List.getElem?_eq_none_iff.mpr (by rw [List.length_map]; omega)).symm
    rw [← ez]
    exact e
/-- those that pass -/
theorem lcf {tt : TT} {α : Type} (w : Walk J n G Y) (us : List α) (f : α → V) (c : α → Bool) (hl : us.length = n) (nD : H1 D = none) (hn : n < 100000) (hG : ∀ H', Same H1 H' → G H') (hY : ∀ i H x H', Same H1 H → Y i H x H' → Same H H')
    (hs : ∀ i u x H H', us[i]? = some u → Same H1 H → Y i H x H' → ∀ (Z : V → Hp → Prop) (N : Hp → Prop), (c u = true → ∀ H2, Same H' H2 → Z (f u) H2) → (c u = false → ∀ H2, Same H' H2 → N H2) →
      g x (wipe σ vs) H' fun σ2 H2 => wipe σ2 vs = wipe σ vs ∧ tt σ2 H2 fun b H3 => if b = true then te σ2 H3 Z else N H3)
    (hd : ∀ H', Same H1 H' → H' D = some (.lst ((us.filter c).map f)) → Qd H') : LcQ J g tt te vs σ H1 D Qd := by
  refine lc_it w (fun i H => Same H1 H ∧ H D = some (.lst (((us.take i).filter c).map f))) ⟨fun b o h => ?_, upd_same⟩ (fun i H _ h => hG H h.1) ?_ ?_
  · rw [upd_ne (ne_of_none h nD)]
    exact h
  · rintro i x H H' hi ⟨s, e⟩ y
    have s' := hY i H x H' s y
    have hu : us[i]? = some (us[i]'(by omega)) := List.getElem?_eq_getElem _
    generalize us[i]'(by omega) = u at hu
    refine hs i u x H H' hu s y _ _ (fun hc H2 s2 => ?_) (fun hc H2 s2 => ⟨s.trans (s'.trans s2), ?_⟩)
    · have e2 := s2 _ _ (s' _ _ e)
      refine ⟨_, e2, Nat.lt_of_lt_of_le (?_ : _ < 100000) (by decide), fun b o h => ?_, ?_⟩
      · rw [List.length_map]
        have := List.length_filter_le c (us.take i)
        rw [List.length_take] at this
        omega
      · rw [upd_ne (ne_of_none h nD)]
        exact s2 _ _ (s' _ _ (s _ _ h))
      · rw [upd_same, List.take_add_one, hu, List.filter_append, List.map_append]
        show _ = some (HO.lst (_ ++ List.map f (List.filter c [u])))
        rw [List.filter_cons, hc]
        rfl
    · have e2 := s2 _ _ (s' _ _ e)
      rw [e2, List.take_add_one, hu, List.filter_append, List.map_append]
      show _ = some (HO.lst (_ ++ List.map f (List.filter c [u])))
      rw [List.filter_cons, hc]
      show _ = some (HO.lst (_ ++ []))
      rw [List.append_nil]
  · rintro H ⟨s, e⟩
    rw [← hl, List.take_length] at e
    exact hd H s e
end
/-- walks of lists, tuples and ranges change nothing -/
theorem yat_same {xs : List V} {i : Nat} {H H' : Hp} {x : V} (h : YAt xs i H x H') : Same H H' := h.1 ▸ Same.refl _
theorem ypair_same {f g : Nat → Option V} {i : Nat} {H H' : Hp} {x : V} (h : YPair f g i H x H') : Same H H' := by
  obtain ⟨T, a, b, _, nT, rfl, _⟩ := h
  intro c o e
  rw [upd_ne (ne_of_none e nT)]
  exact e
/-- sep.join(xs) within a comprehension -/
def rJoin (K : PySem.W.Frag) : V → List V → Hp → VK → Prop := fun x xs H Q =>
  ∃ (a : Str) (p : Addr) (ys : List Str), x = .str a ∧ xs = [.ref p] ∧
    (SqL K H p (ys.map V.str) ∨ SqT K H p (ys.map V.str)) ∧
    (ys.map (·.length)).sum + ys.length * a.length ≤ 16777216 ∧ Q (.str (Txt.join a ys)) H
theorem pe_joinC {X : Cx} {K : PySem.W.Frag} {o e : Expr} {to te : TE} {apos pos : Pos} (hK : X.K = K) (ho : PE X o to) (he : PE X e te)
    (hs : starEach [e] X.env = [(false, eval e X.env)] := by rfl) (hb : attributeBase o "join" X.env (eval o X.env) = eval o X.env := by rfl)
    (hl : (apos.endLine == pos.line) = true := by rfl) : PE X (.Call (.Attribute o "join" apos) [e] [] pos) (tM1 (rJoin K) to te) := by
  subst hK
  exact pe_join ho he hs hb hl
end MH
/-! Own special methods of instances: -o, o == p, o != p, str(o). -/
namespace MH
open PySem PySem.Spec PyProof.Rows L2
section
variable {X : Cx} {CX : CXT} {k : Nat} {C f : Addr} {fd : FuncData} {ps : List Str} {sp : Sp} {E : XK}
/-- what len asks of a list or tuple (call_len_seq), named -/
abbrev rLenSq (K : PySem.W.Frag) : List V → Hp → VK → Prop := fun xs H Q => ∃ p ys, xs = [V.ref p] ∧ (SqL K H p ys ∨ SqT K H p ys) ∧ Q (V.int (ys.length : Nat)) H
end
end MH
/-! Own rules: the call of an own object, o(..) by its class's __call__; the truth of a whole number within a comprehension. -/
namespace MH
open PySem PySem.Spec PyProof.Rows L2
end MH
/-! Comprehensions over two walks, the second within the first. -/
namespace MH
open PySem PySem.Spec PyProof.Rows L2
theorem walk_zipT {K : PySem.W.Frag} {a b : Addr} {xs ys : List V} {n : Nat} (hn : n = min xs.length ys.length) : Walk (RZ.ItzT K a b) n (fun H => SqT K H a xs ∧ SqT K H b ys) (YPair (fun i => xs[i]?) (fun i => ys[i]?)) where
  goes := fun i H hi q => ⟨xs, ys, xs[i]'(by omega), ys[i]'(by omega), q.1, q.2, List.getElem?_eq_getElem _, List.getElem?_eq_getElem _⟩
  stops := fun H q => ⟨xs, ys, q.1, q.2, by omega⟩
  yields := fun i H v H' hi q ⟨T, x, z, h1, h2, h3, h4, h5⟩ => ⟨T, x, z, h1, h2, h3, h4 xs q.1, h5 ys q.2⟩
end MH
/-! The mathematics: texts in order, names, menus. -/
namespace MH
open PySem PySem.Spec PyProof.Rows L2
/-! ### the order of texts -/
def ltS (x y : Str) : Prop := x.cps.toList < y.cps.toList
instance (x y : Str) : Decidable (ltS x y) := inferInstanceAs (Decidable (x.cps.toList < y.cps.toList))
theorem lst_lt_irrefl : ∀ a : List Nat, ¬ a < a := fun a h => List.lt_irrefl a h
theorem ltS_irrefl (x : Str) : ¬ ltS x x := lst_lt_irrefl _
theorem ltS_trans {x y z : Str} (a : ltS x y) (b : ltS y z) : ltS x z := List.lt_trans a b
theorem ltS_tri (x y : Str) : ltS x y ∨ x = y ∨ ltS y x := by
  by_cases h : ltS x y
  · exact .inl h
  · by_cases h2 : ltS y x
    · exact .inr (.inr h2)
    · refine .inr (.inl ?_)
      have e : x.cps.toList = y.cps.toList := List.le_antisymm (List.not_lt.mp h2) (List.not_lt.mp h)
      exact Str.ext' (Array.toList_inj.mp e)
theorem risingS_pw : ∀ (p : Str) (l : List Str), risingS p l = true → l.Pairwise (fun a b => ¬ ltS b a) ∧ ∀ x ∈ l, ¬ ltS x p
  | p, [], _ => ⟨List.Pairwise.nil, fun _ h => nomatch h⟩
  | p, x :: r, h => by
    have h' : (!ltCps x.cps.toList p.cps.toList && risingS x r) = true := h
    rw [Bool.and_eq_true, ltCps_eq] at h'
    obtain ⟨h1, h2⟩ := h'
    obtain ⟨q1, q2⟩ := risingS_pw x r h2
    have n1 : ¬ ltS x p := by
      intro z
      rw [decide_eq_true (show x.cps.toList < p.cps.toList from z)] at h1
      cases h1
    refine ⟨List.Pairwise.cons (fun y hy => q2 y hy) q1, fun y hy => ?_⟩
    rcases List.mem_cons.mp hy with rfl | hy
    · exact n1
    · intro z
      rcases ltS_tri x p with a | a | a
      · exact n1 a
      · subst a
        exact q2 y hy z
      · exact q2 y hy (ltS_trans z a)
theorem sortedS_pw : ∀ {l : List Str}, sortedS l = true → l.Pairwise (fun a b => ¬ ltS b a)
  | [], _ => List.Pairwise.nil
  | x :: r, h => List.Pairwise.cons (risingS_pw x r h).2 (risingS_pw x r h).1
/-- two arrangements in order of the same texts are one -/
theorem sorted_one {l m : List Str} (p : l.Perm m) (hl : sortedS l = true) (hm : sortedS m = true) : l = m :=
  p.eq_of_pairwise (fun a b _ _ h1 h2 => by
    rcases ltS_tri a b with z | z | z
    · exact absurd z h2
    · exact z
    · exact absurd z h1) (sortedS_pw hl) (sortedS_pw hm)
/-- in order and none twice: each before the next -/
theorem sorted_lt {l : List Str} (hn : l.Nodup) (h : sortedS l = true) : l.Pairwise ltS := by
  have a := sortedS_pw h
  have b : l.Pairwise (fun x y => x ≠ y) := hn
  refine (List.pairwise_and_iff.mpr ⟨a, b⟩).imp fun {x y} z => ?_
  rcases ltS_tri x y with q | q | q
  · exact q
  · exact absurd q z.2
  · exact absurd q z.1
/-! ### names -/
def letters : Str := "abcdefghijklmnopqrstuvwxyz"
def digits : Str := "0123456789"
def isL (c : Nat) : Bool := decide (c ∈ letters.cps.toList)
def isD (c : Nat) : Bool := decide (c ∈ digits.cps.toList)
def nameOk (z : Str) : Bool := decide (1 ≤ z.length) && (decide (z.length ≤ 8) && (isL (z.cps.toList.getD 0 0) && z.cps.toList.all fun c => isL c || isD c))
def pool : List Str := ["a", "a0", "aa", "ab", "b", "b9", "ba", "c", "d", "k1", "q", "zz", "zzzzzzzz"]
theorem pool_ok : ∀ z ∈ pool, nameOk z = true := by decide +kernel
theorem pool_nd : pool.Nodup := by decide +kernel
/-! ### menus -/
end MH
/-! Data as repr shows it: its length, and what == and repr ask. -/
namespace MH
open PySem PySem.Spec PyProof.Rows L2
mutual
def okD : PyData → Bool
  | .none => true
  | .bool _ => true
  | .int i => decide (i.natAbs < 10 ^ 100)
  | .str x => PyData.strOk x
  | .list xs => okDs xs
  | .tuple xs => okDs xs
  | .dict _ => false
def okDs : List PyData → Bool
  | [] => true
  | x :: xs => okD x && okDs xs
end
mutual
theorem ok_lay : ∀ d : PyData, okD d = true → d.canLay0 = true
  | .none, _ => by simp only [PyData.canLay0]
  | .bool _, _ => by simp only [PyData.canLay0]
  | .int _, _ => by simp only [PyData.canLay0]
  | .str x, h => by
    rw [PyData.canLay0]
    exact h
  | .list xs, h => by
    rw [PyData.canLay0]
    exact ok_layAll xs h
  | .tuple xs, h => by
    rw [PyData.canLay0]
    exact ok_layAll xs h
  | .dict _, h => nomatch h
theorem ok_layAll : ∀ xs : List PyData, okDs xs = true → PyData.canLayAll0 xs = true
  | [], _ => by simp only [PyData.canLayAll0]
  | x :: xs, h => by
    have h' : (okD x && okDs xs) = true := h
    rw [Bool.and_eq_true] at h'
    rw [PyData.canLayAll0, ok_lay x h'.1, ok_layAll xs h'.2]
    rfl
end
theorem shaped_of {d : PyData} (ok : okD d = true) (h : d.depth ≤ 64) : SeqAt.shaped d = true := by
  unfold SeqAt.shaped
  rw [ok_lay d ok, decide_eq_true h]
  rfl
/-! texts in a row -/
theorem okDs_strs {ss : List Str} (h : ∀ z ∈ ss, PyData.strOk z = true) : okDs (ss.map PyData.str) = true := by
  induction ss with
  | nil => rfl
  | cons z r ih =>
    show (PyData.strOk z && okDs (r.map PyData.str)) = true
    rw [h z List.mem_cons_self, ih fun y hy => h y (List.mem_cons_of_mem _ hy)]
    rfl
theorem depth_strs : ∀ ss : List Str, PyData.depthAll (ss.map PyData.str) = 0
  | [] => by rw [List.map_nil, PyData.depthAll]
  | z :: r => by rw [List.map_cons, PyData.depthAll, depth_strs r, PyData.depth]; rfl
theorem dp_strs {K : PySem.W.Frag} {H : Hp} : ∀ ss : List Str, DpAll K H (ss.map V.str) (ss.map PyData.str)
  | [] => .nil
  | z :: r => .cons (.str z) (dp_strs r)
theorem isL_le {c : Nat} (h : isL c = true) : c < 128 := by
  have q : ∀ c ∈ letters.cps.toList, c < 128 := by decide +kernel
  exact q c (of_decide_eq_true h)
theorem isD_le {c : Nat} (h : isD c = true) : c < 128 := by
  have q : ∀ c ∈ digits.cps.toList, c < 128 := by decide +kernel
  exact q c (of_decide_eq_true h)
theorem nameOk_len {z : Str} (h : nameOk z = true) : z.length ≤ 8 := by
  unfold nameOk at h
  simp only [Bool.and_eq_true, decide_eq_true_eq] at h
  exact h.2.1
theorem nameOk_str {z : Str} (h : nameOk z = true) : PyData.strOk z = true := by
  unfold nameOk at h
  simp only [Bool.and_eq_true, decide_eq_true_eq] at h
  have q := h.2.2.2
  rw [List.all_eq_true] at q
  unfold PyData.strOk
  rw [← Array.all_toList, List.all_eq_true]
  intro c hc
  refine decide_eq_true ?_
  have w := q c hc
  rw [Bool.or_eq_true] at w
  rcases w with w | w
  · have := isL_le w
    omega
  · have := isD_le w
    omega
end MH
/-! A tuple taken from the back: t[::-1]. -/
namespace MH
open PySem PySem.Spec PyProof.Rows L2 PySem.SeqAt HT
section
variable {prog : Program} {w : World} {A : Around} {E : Value → Shared → Prop} {s : Shared}
theorem applied_back {sl : Addr} {vk : Value} {n : Nat} {Q : Int × Int × Nat → Shared → Prop} (hs : s.heap.IsSliceOf sl .none .none vk) (pk : IsPart vk (some (-1)))
    (h : Q ((n : Int) - 1, -1, n) s) : wpAny (model prog w) A (Builtin.Slice.sliceApplied (.ref sl) (pure (n : Int))) Q E s := by
  obtain ⟨os, hos, hcs, hds⟩ := id hs
  unfold Builtin.Slice.sliceApplied Builtin.Slice.sliceFields
  refine wpAny_bind (wpAny_bind (wpAny_field hos hds (x := .none) rfl (wpAny_bind (wpAny_field hos hds (x := .none) rfl (wpAny_bind (wpAny_field hos hds (x := vk) rfl (wpAny_pure ?_)))))))
  refine wpAny_bind (slicePart_ pk ?_)
  show wpAny _ _ (if ((-1 : Int) == 0) = true then _ else _) _ _ s
  rw [if_neg (by decide)]
  refine wpAny_bind (slicePart_none (wpAny_bind (slicePart_none (wpAny_bind (wpAny_pure ?_)))))
  have e : Builtin.Slice.sliceAdjust none none (-1) (n : Int) = ((n : Int) - 1, -1) := by
    unfold Builtin.Slice.sliceAdjust
    simp
  show wpAny _ _ (match Builtin.Slice.sliceAdjust none none (-1) (n : Int) with | (lo, hi) => pure (lo, (-1 : Int), Builtin.Slice.slicePlaces lo hi (-1))) _ _ s
  rw [e]
  have e2 : Builtin.Slice.slicePlaces ((n : Int) - 1) (-1) (-1) = n := by
    unfold Builtin.Slice.slicePlaces
    simp
    try omega
  show wpAny _ _ (pure ((n : Int) - 1, (-1 : Int), Builtin.Slice.slicePlaces ((n : Int) - 1) (-1) (-1))) _ _ s
  rw [e2]
  exact wpAny_pure h
theorem filter_congr {α β : Type} {f g : α → Option β} : ∀ {l : List α}, (∀ x ∈ l, f x = g x) → l.filterMap f = l.filterMap g
  | [], _ => rfl
  | x :: l, h => by
    rw [List.filterMap_cons, List.filterMap_cons, h x List.mem_cons_self, filter_congr fun y hy => h y (List.mem_cons_of_mem _ hy)]
theorem pick_back (xs : Array Value) : ((List.range xs.size).filterMap fun (m : Nat) => xs[((xs.size : Int) - 1 + (m : Int) * (-1)).toNat]?).toArray = xs.toList.reverse.toArray := by
  have e : (List.range xs.size).filterMap (fun (m : Nat) => xs[((xs.size : Int) - 1 + (m : Int) * (-1)).toNat]?) = ((List.range xs.size).map (fun k => xs.size - 1 - k)).filterMap (xs[·]?) := by
    rw [List.filterMap_map]
    refine filter_congr fun m hm => ?_
    have := List.mem_range.mp hm
    have e2 : ((xs.size : Int) - 1 + (m : Int) * (-1)).toNat = xs.size - 1 - m := by omega
    rw [e2]
    rfl
  rw [e, PySem.W.krv_range, List.filterMap_reverse, PySem.W.krv_all]
theorem getItem_back {t sl : Addr} {items : Array Value} {vk : Value} {Q : Value → Shared → Prop} (ht : IsTup s.heap t items) (hs : s.heap.IsSliceOf sl .none .none vk) (pk : IsPart vk (some (-1)))
    (h : Q (.ref s.heap.objs.size) { s with heap := s.heap.push { cls := .type "tuple", data := .seq items.toList.reverse.toArray } })
    (hsz : items.size ≤ sizeLine) : wpAny (model prog w) A (getItem (.ref t) (.ref sl)) Q E s := by
  have htake : sizeOk (.seq items.toList.reverse.toArray) := by
    show items.toList.reverse.toArray.size ≤ sizeLine
    rw [List.size_toArray, List.length_reverse, Array.length_toList]
    exact hsz
  obtain ⟨os, hos, hcs, hds⟩ := id hs
  have hTs : s.TypeIs (.ref sl) "slice" := ⟨os, hos, hcs⟩
  unfold getItem
  try with_reducible refine wpAny_holding ?_
  first | refine wpAny_bind (wpAny_pure ?_) | skip
  refine wpAny_bind (wpAny_sequenceKey ht.typeIs (by decide) ?_)
  refine wpAny_bind (wpAny_callSpecial?_slot (name := Str.ofString "__getitem__") ht.typeIs PyProof.Rows.slot_tuple_getitem
    (wpAny_call_entry PyProof.Rows.slot_tuple_getitem ht.typeIs entry_tuple_getitem ?_ (args_tuple_getitem _ _)))
  show wpAny _ _ (Builtin.Tuple.tupleItemsOf (.ref t) >>= _) _ _ s
  refine wpAny_bind (tupleItemsOf_ ht ?_)
  refine wpAny_bind (wpAny_typeOf hTs ?_)
  rw [if_pos (by decide)]
  refine wpAny_bind (applied_back hs pk ?_)
  have hno : ¬ (((items.size : Int) - 1 == 0 && (-1 : Int) == 1 && items.size == items.size) = true) := by
    rw [show ((-1 : Int) == 1) = false from rfl, Bool.and_false, Bool.false_and]
    exact Bool.false_ne_true
  show wpAny _ _ (if ((items.size : Int) - 1 == 0 && (-1 : Int) == 1 && items.size == items.size) = true then _ else _) _ _ s
  rw [if_neg hno, pick_back]
  first
    | exact wpAny_bind (m := Builtin.Tuple.tupleExact _) (wpAny_newObj_type (wpAny_pure ⟨_, rfl, wpAny_pure h⟩) htake)
    | exact wpAny_bind (m := Builtin.Tuple.tupleExact _) (wpAny_newObj_type (wpAny_bind (wpAny_pure (wpAny_pure ⟨_, rfl, wpAny_pure h⟩))) htake)
    | exact wpAny_bind (wpAny_bind (m := Builtin.Tuple.tupleExact _) (wpAny_newObj_type (wpAny_pure (wpAny_pure ⟨_, rfl, wpAny_pure h⟩)) htake))
    | exact wpAny_bind (wpAny_bind (m := Builtin.Tuple.tupleExact _) (wpAny_newObj_type (wpAny_pure ⟨_, rfl, wpAny_pure h⟩) htake))
end
end MH
/-! More own special methods: len, bool, repr, [], in, == and != with values of other kinds, f-strings, classmethods. -/
namespace MH
open PySem PySem.Spec PyProof.Rows L2
section
variable {X : Cx} {CX : CXT} {k : Nat} {C f : Addr} {fd : FuncData} {ps : List Str} {sp : Sp} {E : XK}
theorem FnOk.toR {P : Program} {w : World} {K : PySem.W.Frag} {mg : Str → Option Value} {base : Heap} (F : FnOk P w K mg base CX k f fd ps sp) (hB : Binds K fd ps []) : FnR P w K mg base CX k f sp := fun A outer s H us vs Q E hr e0 r hs => by
  have KX : K.In s.heap := e0.mod.kin.keeps fun b o e => (e0.bs b o e).1
  have hl : (us ++ []).length = ps.length := by rw [List.append_nil, ← r.length, F.len _ _ _ _ hs]
  have hb2 := hB s us KX hl
  rw [List.append_nil] at hb2
  exact F.run A outer s H ⟨us, []⟩ us vs Q E hr e0 hb2 r hs
end
end MH
/-! try .. except (A, B, C) as n: the clause's classes in a tuple. -/
namespace MH
open PySem PySem.Spec PyProof.Rows L2
end MH
/-! Caught exceptions as objects of the tracked heap; defs that are called within an except suite. -/
namespace MH
open PySem PySem.Spec PyProof.Rows L2
/-! ### a caught exception -/
/-! ### try: body, except (A, B, C) as n: suite -/
/-! ### promises of defs that are called within a suite (whatever is handled), while no repr is under way -/
def FnK (P : Program) (w : World) (K : PySem.W.Frag) (mg : Str → Option Value) (base : Heap) (k : Nat) (f : Addr) (sp : Sp) : Prop :=
  ∀ (A : Around) (fr : List Env) (st : Shared) (H : Hp) (us : List Value) (vs : List V) (Q : VK), A.guards = some [] → L2H.RoomH k A → Env0 P w K mg base A fr st H → Vals vs us →
    sp vs H Q E0 → codeAny (model P w) A (.call (.ref f) ⟨us, []⟩) (CR CX0 fr P w H st Q E0) st
section
variable {P : Program} {w : World} {K : PySem.W.Frag} {mg : Str → Option Value} {base : Heap} {k : Nat} {f : Addr} {sp : Sp}
theorem FnK.mono {j : Nat} (F : FnK P w K mg base j f sp) (h : j ≤ k) : FnK P w K mg base k f sp := fun A fr st H us vs Q hg hr => F A fr st H us vs Q hg (hr.mono h)
end
/-! ### isinstance and fields of a caught exception -/
end MH
/-! repr of values of many kinds; list.count of truths; the signs of what repr shows. -/
namespace MH
open PySem PySem.Spec PyProof.Rows L2
/-! ### signs -/
/-! ### what repr shows of a value -/
/-! ### list.count of truths -/
end MH
/-! Small rules: what a callee lets out, defs that make lambdas, upper and replace side by side, frames in which tables of code grow, the end of such a law. -/
namespace MH
open PySem PySem.Spec PyProof.Rows L2
theorem roomH_units {k : Nat} {A : Around} (r : L2H.RoomH k A) : A.units + 64 < cLine := by
  have := r.un
  omega
theorem _root_.L2H.RoomH.units {k : Nat} {A : Around} (r : L2H.RoomH k A) : A.units + 64 < cLine := roomH_units r
/-! ### a def whose code object is told -/
/-! ### [x.upper(), y.replace(".", ".."), ..] -/
/-! ### frames in which the tables of code may grow -/
/-! ### the end of a law whose defs make lambdas -/
end MH
/-! More small rules: t == (), star defs that raise, c.m() of a class, calls that may raise but do not, the end of a law with several tables of code. -/
namespace MH
open PySem PySem.Spec PyProof.Rows L2
/-! ### t == () -/
/-! ### calls that may raise and do not -/
/-! ### star defs that raise -/
/-! ### c.m(), m a classmethod -/
/-! ### the end of a law whose defs make lambdas: several tables -/
end MH
/-! sorted of a list of tuples of texts (of any lengths but none), any number of them. -/
namespace MH
open PySem PySem.Spec PyProof.Rows L2 Srt
/-! ### the order of rows -/
def ltZ (fin : Bool) : List Str → List Str → Bool
  | x :: xs, y :: ys => if x = y then ltZ fin xs ys else decide (x.cps.toList < y.cps.toList)
  | _, _ => fin
/-- the one row stands ahead of the other: as Python orders tuples of texts -/
def ltR (xs ys : List Str) : Bool := ltZ (decide (xs.length < ys.length)) xs ys
theorem ltZ_cons {f : Bool} {x y : Str} {xs ys : List Str} : ltZ f (x :: xs) (y :: ys) = if x = y then ltZ f xs ys else decide (x.cps.toList < y.cps.toList) := rfl
theorem ltZ_nil_left {f : Bool} {ys : List Str} : ltZ f [] ys = f := by cases ys <;> rfl
theorem ltZ_nil_right {f : Bool} {xs : List Str} : ltZ f xs [] = f := by cases xs <;> rfl
theorem ltR_nil_nil : ltR [] [] = false := rfl
theorem ltR_nil_cons {y : Str} {ys : List Str} : ltR [] (y :: ys) = true := by
  unfold ltR
  rw [ltZ_nil_left]
  exact decide_eq_true (Nat.succ_pos _)
theorem ltR_cons_nil {x : Str} {xs : List Str} : ltR (x :: xs) [] = false := by
  unfold ltR
  rw [ltZ_nil_right]
  exact decide_eq_false (Nat.not_lt_zero _)
theorem ltR_cons {x y : Str} {xs ys : List Str} : ltR (x :: xs) (y :: ys) = if x = y then ltR xs ys else decide (ltS x y) := by
  unfold ltR
  rw [ltZ_cons]
  by_cases h : x = y
  · rw [if_pos h, if_pos h]
    congr 1
    simp
  · rw [if_neg h, if_neg h]
    rfl
theorem ltR_irrefl : ∀ xs, ltR xs xs = false
  | [] => ltR_nil_nil
  | x :: xs => by rw [ltR_cons, if_pos rfl, ltR_irrefl xs]
theorem ltR_asym : ∀ xs ys, ltR xs ys = true → ltR ys xs = false
  | [], [], h => by rw [ltR_nil_nil] at h; cases h
  | [], y :: ys, _ => ltR_cons_nil
  | x :: xs, [], h => by rw [ltR_cons_nil] at h; cases h
  | x :: xs, y :: ys, h => by
    rw [ltR_cons] at h ⊢
    by_cases e : x = y
    · subst e
      rw [if_pos rfl] at h ⊢
      exact ltR_asym xs ys h
    · rw [if_neg e] at h
      rw [if_neg fun z => e z.symm]
      exact decide_eq_false fun z => ltS_irrefl x (ltS_trans (of_decide_eq_true h) z)
theorem ltR_tri : ∀ xs ys, ltR xs ys = false → ltR ys xs = false → xs = ys
  | [], [], _, _ => rfl
  | [], y :: ys, h, _ => by rw [ltR_nil_cons] at h; cases h
  | x :: xs, [], _, h => by rw [ltR_nil_cons] at h; cases h
  | x :: xs, y :: ys, h, g => by
    rw [ltR_cons] at h g
    by_cases e : x = y
    · subst e
      rw [if_pos rfl] at h g
      rw [ltR_tri xs ys h g]
    · rw [if_neg e] at h
      rw [if_neg fun z => e z.symm] at g
      rcases ltS_tri x y with q | q | q
      · exact absurd q (of_decide_eq_false h)
      · exact absurd q e
      · exact absurd q (of_decide_eq_false g)
theorem ltR_trans : ∀ xs ys zs, ltR xs ys = true → ltR ys zs = true → ltR xs zs = true
  | [], [], _, h, _ => by rw [ltR_nil_nil] at h; cases h
  | x :: xs, [], _, h, _ => by rw [ltR_cons_nil] at h; cases h
  | [], y :: ys, [], _, g => by rw [ltR_cons_nil] at g; cases g
  | [], y :: ys, z :: zs, _, _ => ltR_nil_cons
  | x :: xs, y :: ys, [], _, g => by rw [ltR_cons_nil] at g; cases g
  | x :: xs, y :: ys, z :: zs, h, g => by
    rw [ltR_cons] at h g ⊢
    by_cases e : x = y
    · subst e
      rw [if_pos rfl] at h
      by_cases e2 : x = z
      · subst e2
        rw [if_pos rfl] at g ⊢
        exact ltR_trans xs ys zs h g
      · rw [if_neg e2] at g ⊢
        exact g
    · rw [if_neg e] at h
      by_cases e2 : y = z
      · subst e2
        rw [if_neg e]
        exact h
      · rw [if_neg e2] at g
        have t := ltS_trans (of_decide_eq_true h) (of_decide_eq_true g)
        rw [if_neg fun q => by subst q; exact ltS_irrefl x t]
        exact decide_eq_true t
theorem swo_row (k : Value → List Str) : SrtO.Swo fun v u => ltR (k v) (k u) := by
  refine ⟨fun x y h => ltR_asym _ _ h, fun x y z h1 h2 => ?_⟩
  cases h : ltR (k z) (k x) with
  | false => rfl
  | true =>
    exfalso
    cases h3 : ltR (k x) (k y) with
    | true =>
      have := ltR_trans _ _ _ h h3
      rw [h2] at this
      cases this
    | false =>
      have e := ltR_tri _ _ h3 h1
      rw [e] at h
      rw [h2] at h
      cases h
/-! ### such tuples in memory -/
/-- v: a tuple of these texts -/
def IsRow (h : Heap) (v : Value) (xs : List Str) : Prop := ∃ (a : Addr) (o : Obj) (its : List Value) (n : Nat), v = .ref a ∧ h.get? a = some o ∧ o.cls = .type "tuple" ∧ o.data = .seq its.toArray n ∧ Vals (xs.map V.str) its
theorem IsRow.keeps {h h' : Heap} {v : Value} {xs : List Str} (r : IsRow h v xs) (k : ∀ b o, h.get? b = some o → o.cls = .type "tuple" → h'.get? b = some o) : IsRow h' v xs := by
  obtain ⟨a, o, its, n, e, ho, hc, hd, hv⟩ := r
  exact ⟨a, o, its, n, e, k _ _ ho hc, hc, hd, hv⟩
section
variable {prog : Program} {w : World} {A : Around} {E : Value → Shared → Prop} {s : Shared}
theorem kat_row {fin : Bool} {Q : Bool → Shared → Prop} : ∀ (xs ys : List Str) (us vs : List Value) (i : Nat), Vals (xs.map V.str) us → Vals (ys.map V.str) vs → Q (ltZ fin xs ys) s → PySem.W.KatLex prog w A true fin Q (us.zip vs) i s
  | [], ys, us, vs, i, h, g, q => by
    cases h
    rw [ltZ_nil_left] at q
    exact PySem.W.kat_nil q
  | x :: xs, [], us, vs, i, h, g, q => by
    cases g
    rw [ltZ_nil_right] at q
    rw [List.zip_nil_right]
    exact PySem.W.kat_nil q
  | x :: xs, y :: ys, us, vs, i, h, g, q => by
    rw [List.map_cons] at h g
    cases h with
    | @cons _ u _ us' h1 h2 =>
      cases g with
      | @cons _ v _ vs' g1 g2 =>
        obtain ⟨t, rfl⟩ : ∃ t, u = Value.str x t := h1
        obtain ⟨t', rfl⟩ : ∃ t', v = Value.str y t' := g1
        rw [ltZ_cons] at q
        rw [List.zip_cons_cons]
        refine PySem.W.kat_cons (SeqAt.EqAt.str_str x t y t' prog w _ _ ?_)
        refine PySem.W.kat_go (fun e => ?_) (fun e => ?_)
        · have e : x = y := by simpa using e
          rw [if_pos e] at q
          exact PySem.W.kat_yes (kat_row xs ys us' vs' (i + 1) h2 g2 q)
        · have e : ¬ x = y := by simpa using e
          rw [if_neg e] at q
          exact PySem.W.kat_no (oneLt_any_str q)
theorem row_cmp {vs : List Value} {k : Value → List Str} (hp : ∀ v ∈ vs, IsRow s.heap v (k v)) : SrtO.Cmp prog w A s (tuples' true) (fun p => p.1 ∈ vs) (SrtO.lt2 fun v u => ltR (k v) (k u)) := by
  intro p q hm hm'
  have h1 := hp _ hm
  have h2 := hp _ hm'
  show wpAny (model prog w) A (keyLt' (tuples' true) p.1 q.1) (fun r s' => s' = s ∧ r = ltR (k p.1) (k q.1)) (fun _ _ => False) s
  generalize k p.1 = xs at h1 ⊢
  generalize k q.1 = ys at h2 ⊢
  obtain ⟨a, o, us, n, e, ho, hc, hd, hu⟩ := h1
  obtain ⟨a', o', ws, n', e', ho', hc', hd', hw⟩ := h2
  rw [e, e']
  refine PySem.W.kat_lt ho hd ho' hd' ?_
  have lx : us.toArray.size = xs.length := by
    have := hu.length
    rw [List.length_map] at this
    simp [this]
  have ly : ws.toArray.size = ys.length := by
    have := hw.length
    rw [List.length_map] at this
    simp [this]
  rw [lx, ly]
  exact kat_row xs ys us ws 0 hu hw ⟨rfl, rfl⟩
theorem row_firsts {h : Heap} {k : Value → List Str} : ∀ {vs : List Value}, (∀ v ∈ vs, IsRow h v (k v) ∧ k v ≠ []) → ∃ fs : List Value, PySem.W.KatTups h vs fs ∧ fs.length = vs.length ∧ ∀ f ∈ fs, ∃ x t, f = Value.str x t
  | [], _ => ⟨[], PySem.W.KatTups.nil, rfl, fun _ hm => by simp at hm⟩
  | v :: vs, hp => by
    obtain ⟨fs, h1, h2, h3⟩ := row_firsts (vs := vs) fun v' hm => hp v' (List.mem_cons_of_mem _ hm)
    obtain ⟨⟨a, o, us, n, e, ho, hc, hd, hu⟩, ne⟩ := hp v (List.mem_cons_self ..)
    obtain ⟨x, xs, ek⟩ := List.exists_cons_of_ne_nil ne
    rw [ek, List.map_cons] at hu
    cases hu with
    | @cons _ u _ us' r1 r2 =>
      obtain ⟨t, rfl⟩ : ∃ t, u = Value.str x t := r1
      subst e
      refine ⟨.str x t :: fs, PySem.W.KatTups.cons ho hc hd (by simp) h1, by rw [List.length_cons, List.length_cons, h2], fun f hm => ?_⟩
      rcases List.mem_cons.mp hm with rfl | hm
      · exact ⟨x, t, rfl⟩
      · exact h3 f hm
theorem rows_sortableO {a : Addr} {vs : List Value} {k : Value → List Str} (h0 : 0 < vs.length) (hp : ∀ v ∈ vs, IsRow s.heap v (k v) ∧ k v ≠ []) (ha : ∀ o, s.heap.get? a = some o → o.cls ≠ .type "tuple") : SrtO.SortableO prog w A s a vs fun v u => ltR (k v) (k u) := by
  intro h' keep
  have hp' : ∀ v ∈ vs, IsRow h' v (k v) ∧ k v ≠ [] := fun v hm => ⟨(hp v hm).1.keeps fun b o e c => keep b o (fun z => by subst z; exact ha o e c) e, (hp v hm).2⟩
  obtain ⟨fs, h1, h2, h3⟩ := row_firsts hp'
  refine ⟨tuples' true, fun Q E hq => ?_, row_cmp fun v hv => (hp' v hv).1⟩
  refine PySem.W.kat_kind (T := .type "str") h1 (by omega) (fun f hm => ?_) (by rfl) ?_
  · obtain ⟨x, t, rfl⟩ := h3 f hm
    exact PySem.W.Looks.now
  · have e : (Value.type "str" != Value.type "tuple") = true := by first | decide +kernel | rfl | decide
    rw [e]
    exact hq
end
/-- sorted(xs), xs a list of tuples of texts (k says which, none empty): a new list of them, in order -/
def rSortedR (K : PySem.W.Frag) : List V → Hp → VK → Prop := fun vs H Q => ∃ (a : Addr) (ts : List Addr) (k : Addr → List Str), vs = [V.ref a] ∧ SqL K H a (ts.map V.ref) ∧ (∀ t ∈ ts, SqT K H t ((k t).map V.str) ∧ k t ≠ []) ∧
  ∀ (ts' : List Addr) (p : Addr), ts'.Perm ts → (ts'.map k).Pairwise (fun x y => ltR y x = false) → H p = none → Q (.ref p) (upd H p (.lst (ts'.map V.ref)))
def refA : Value → Addr
  | .ref a => a
  | _ => 0
section
variable {X : Cx}
theorem vals_refs : ∀ {ts : List Addr} {us : List Value}, Vals (ts.map V.ref) us → us = ts.map Value.ref
  | [], _, r => by
    cases r
    rfl
  | t :: ts, _, r => by
    rw [List.map_cons] at r
    cases r with
    | cons r1 r2 =>
      cases r1
      rw [vals_refs r2]
      rfl
theorem refs_vals : ∀ ts : List Addr, Vals (ts.map V.ref) (ts.map Value.ref)
  | [] => .nil
  | t :: ts => .cons rfl (refs_vals ts)
theorem cr_sortedR : CallR X (.builtin "sorted") (rSortedR X.K) := by
  intro pins s σ H xs us Q I r h
  obtain ⟨a, ts, k, rfl, hs, hk, q⟩ := h
  obtain ⟨its, rv, hl, hz⟩ := I.list hs
  obtain ⟨u, rfl, ru⟩ := vals1 r
  obtain rfl : u = Value.ref a := ru
  have ei := vals_refs rv
  subst ei
  have hz' : (ts.map Value.ref).length ≤ sizeLine := by
    rw [← rv.length]
    exact hz
  have rows : ∀ v ∈ ts.map Value.ref, IsRow s.heap v (k (refA v)) ∧ k (refA v) ≠ [] := fun v hv => by
    obtain ⟨t, ht, rfl⟩ := List.mem_map.mp hv
    obtain ⟨h1, h2⟩ := hk t ht
    obtain ⟨us, r1, ⟨o, ho, hc, n, hd⟩, _⟩ := I.tuple h1
    exact ⟨⟨t, o, us, n, rfl, ho, hc, hd, r1⟩, h2⟩
  refine SrtO.sorted_ord (swo_row fun v => k (refA v)) hl.isList hz' (fun h2 h₁ a' ha kk => ?_) fun out h1 h2 => ?_
  · refine rows_sortableO (s := { s with heap := h₁ }) (k := fun v => k (refA v)) (by omega) (fun v hm => ⟨(rows v hm).1.keeps fun b o e _ => (kk b o e).2, (rows v hm).2⟩) fun o e => ?_
    have e' : some o = some (seqObj "list" (ts.map Value.ref).toArray 0) := e.symm.trans ha
    cases e'
    intro c
    exact absurd (Value.type.inj c) (by decide)
  · obtain ⟨ep, he'⟩ := PyProof.Rows.sortedAll_at s.heap (ts.map Value.ref) out.toArray
    have pm := h2.perm
    have eo : out = (out.map refA).map Value.ref := by
      rw [List.map_map]
      have : ∀ v ∈ out, (Value.ref ∘ refA) v = v := fun v hv => by
        obtain ⟨t, _, rfl⟩ := List.mem_map.mp (pm.mem_iff.mp hv)
        rfl
      exact ((List.map_congr_left (g := id) this).trans (List.map_id _)).symm
    have pm2 : (out.map refA).Perm ts := by
      have z := pm.map refA
      rw [List.map_map] at z
      have e2 : ts.map (refA ∘ Value.ref) = ts := by
        have : (refA ∘ Value.ref) = id := rfl
        rw [this, List.map_id]
      rw [e2] at z
      exact z
    have so : ((out.map refA).map k).Pairwise (fun x y => ltR y x = false) := by
      rw [List.map_map]
      exact List.pairwise_map.mpr (h1.imp fun {x y} h => h)
    have lo : ((out.map refA).map V.ref).length ≤ sizeLine := by
      rw [List.length_map, pm2.length_eq]
      rw [List.length_map] at hz'
      exact hz'
    have vo : Vals ((out.map refA).map V.ref) out := by
      have z := refs_vals (out.map refA)
      rw [← eo] at z
      exact z
    exact ⟨.ref _, upd H (s.heap.objs.size + 1) (.lst ((out.map refA).map V.ref)), I.laid (t' := s.toks) (fun _ _ => PyProof.Rows.sortedAll_old) (Nat.le_succ _) ⟨lo, out, ep, vo, he'⟩, rfl, q _ _ pm2 so (I.hok.fresh (Nat.le_succ _))⟩
end
end MH
/-! own rules: C(*y); dicts whose keys are tuples, made by a comprehension -/
namespace MH
open PySem PySem.Spec PyProof.Rows L2
section
variable {X : Cx} {CX : CXT} {k : Nat} {f C : Addr} {sp : Sp} {E : XK} {x : Str} {e : Expr} {te tf : TE} {p q pos : Pos}
/-- C( *y), y a list or a tuple -/
def tMakeS (K : PySem.W.Frag) (C : Addr) (sp : Sp) (E : XK) (te : TE) : TE := fun σ H Q => te σ H fun y H1 => ∃ a vs, y = V.ref a ∧ (SqT K H1 a vs ∨ SqL K H1 a vs) ∧ ∀ x dx, H1 x = Option.none → H1 dx = Option.none → dx ≠ x →
  sp (V.ref x :: vs) (upd (upd H1 dx (.own x)) x (.ins C dx [])) (fun v Hn => v = .non ∧ Q (.ref x) Hn) E
/-- c( *y), c a local name that holds the class -/
def tMakeSV (K : PySem.W.Frag) (C : Addr) (sp : Sp) (E : XK) (tf te : TE) : TE := fun σ H Q => tf σ H fun x H0 => x = .ref C ∧ tMakeS K C sp E te σ H0 Q
theorem pe_makeSV (M : Mk X.K C f) (F : FnR X.prog X.w X.K X.mg X.base CX k f sp) (hr : Room (k + 1) X.A) (hv : PE X (.Name x p) tf) (hx : Passes CX X E) (he : PE X e te)
    (hst : starEach [.Starred e q] X.env = [(true, eval e X.env)] := by rfl) : PE X (.Call (.Name x p) [.Starred e q] [] pos) (tMakeSV X.K C sp E tf te) := by
  refine ⟨fun pins s σ H Q I h => ?_⟩
  refine wpAny_Call_Name_kw (thn (hv.run pins s σ H _ I h) fun u s0 ⟨v, H0, I0, r0, ev, q0⟩ => ?_)
  subst ev
  obtain rfl : u = Value.ref C := r0
  refine PySem.W.callWith_S (h₀ := X.base) I0.ok.mod.kin M.kp (thn (he.run pins s0 σ H0 _ I0 q0) fun v s1 ⟨y, H1, I1, ry, a, vs, ey, hs, z⟩ => ?_) hst
  subst ey
  obtain rfl : v = Value.ref a := ry
  exact StX.star_any I1 hs fun us s2 I2 rv => ⟨I2.kIn, StX.run_makeR M F hr hx I2 rv z⟩
end
/-! ### {k: v for t in it}, the keys tuples of ints and texts -/
/-! ### tuple(x) with nothing held back of it; list(d), the keys tuples -/
def rTupP (K : PySem.W.Frag) : List V → Hp → VK → Prop := fun xs H Q => ∃ p ys, xs = [.ref p] ∧ ((SqL K H p ys ∧ ∀ l, H l = none → Q (.ref l) (upd H l (.tup ys))) ∨ (SqT K H p ys ∧ Q (.ref p) H))
theorem call_tupP {X : Cx} : CallR X (.type "tuple") (rTupP X.K) := call_tuple_of
theorem lt_1 {n c : Nat} (h : n + 64 < c) : n + 1 < c := by omega
/-- a def that takes any number of arguments -/
theorem fun_starN {k n : Nat} {P : Program} {w : World} {K : PySem.W.Frag} {mg : Str → Option Value} {base : Heap} {f : Addr} {x qual pa pv : Str} {st : Stmt} {fd : FuncData} {N : List Str} {sp : Sp}
    (F : Fun K x qual st f fd) (S : FnScope N [pa, pv] (defScope st))
    (hb : ∀ (u : Value) (rest : List Value), rest.length ≤ n → bindArgs fd ⟨u :: rest, []⟩ = (newTuple rest >>= fun t => pure [(pa, u), (pv, t)]))
    (hbd : ∀ (cdv : Value) (A : Around) (outer : List Env) (s : Shared) (H : Hp) (vs : List V) (Q : VK),
      Room k (A.deeper (envOfC qual (defScope st) s.heap.objs.size f cdv)) → sp vs H Q E0 →
      ∃ t, PSs (cxOf CX0 P w K mg base N qual (defScope st) f cdv A outer s H E0).nox (defBody st) t ∧ t { nx := fun _ H' => Q .non H', rt := Q } (start N vs) H) (hn : n ≤ sizeLine := by decide) :
    FnR P w K mg base CX0 (k + 1) f (fun vs H Q _ => ∃ v rest, vs = v :: rest ∧ rest.length ≤ n ∧ ∀ p, H p = none → sp [v, .ref p] (upd H p (.tup rest)) Q E0) := by
  obtain ⟨oc, od, kV, doc, pm, an, cdv, ct, osl, rfl, lk, hc⟩ := F.ex
  intro A outer s H us vs Q E hr e0 r h
  refine fn_ofV (CX := CX0) (sp := fun vs H Q E => E = E0 ∧ sp vs H Q E0) lk hc S (nmax := n) hn hb (fun _ _ _ _ _ _ _ _ _ _ _ _ z => z) (fun A outer s H vs Q E hr h => ?_) A outer s H us vs Q E0 hr e0 r ?_
  · obtain ⟨rfl, h⟩ := h
    obtain ⟨t, h2, q⟩ := hbd cdv A outer s H vs Q hr h
    exact ⟨t, h2.nox, q⟩
  · obtain ⟨v, rest, e, hl, q⟩ := h
    exact ⟨v, rest, e, hl, fun p np => ⟨rfl, q p np⟩⟩
end MH
/-! own rule: t < u of tuples of texts -/
namespace MH
open PySem PySem.Spec PyProof.Rows L2
theorem lexAt_ltZ {xs ys : List Str} {z : Bool} : ∀ (k i : Nat), k = min (xs.length - i) (ys.length - i) → Ob.lexAt (fun j => decide (xs.getD j "" = ys.getD j "")) (fun j => decide ((xs.getD j "").cps.toList < (ys.getD j "").cps.toList)) z i k = ltZ z (xs.drop i) (ys.drop i)
  | 0, i, h => by
    rw [Ob.lexAt_zero]
    by_cases c : xs.length ≤ i
    · rw [List.drop_eq_nil_of_le c, ltZ_nil_left]
    · rw [List.drop_eq_nil_of_le (as := ys) (i := i) (by omega), ltZ_nil_right]
  | k + 1, i, h => by
    have h1 : i < xs.length := by omega
    have h2 : i < ys.length := by omega
    have g1 : xs.getD i "" = xs[i] := by rw [List.getD_eq_getElem?_getD, List.getElem?_eq_getElem h1]; rfl
    have g2 : ys.getD i "" = ys[i] := by rw [List.getD_eq_getElem?_getD, List.getElem?_eq_getElem h2]; rfl
    rw [Ob.lexAt_succ, List.drop_eq_getElem_cons h1, List.drop_eq_getElem_cons h2, ltZ_cons, lexAt_ltZ k (i + 1) (by omega), g1, g2]
    by_cases e : xs[i] = ys[i]
    · rw [if_pos (decide_eq_true e), if_pos e]
    · rw [if_neg (by rw [decide_eq_false e]; simp), if_neg e]
def rLtR (K : PySem.W.Frag) : R2 := fun x y H Q => ∃ (a b : Addr) (xs ys : List Str), x = .ref a ∧ y = .ref b ∧ SqT K H a (xs.map V.str) ∧ SqT K H b (ys.map V.str) ∧ Q (.bl (ltR xs ys)) H
theorem str_atV : ∀ {xs : List Str} {us : List Value}, Vals (xs.map V.str) us → ∀ j (h : j < us.length), ∃ t, us[j] = .str (xs.getD j "") t
  | [], _, .nil, j, h => by cases h
  | x :: xs, _, .cons (b := u) r1 r2, 0, h => by
    obtain ⟨t, e⟩ : ∃ t, u = Value.str x t := r1
    exact ⟨t, e⟩
  | x :: xs, _, .cons r1 r2, j + 1, h => by
    obtain ⟨t, e⟩ := str_atV r2 j (by simpa using h)
    exact ⟨t, by simpa using e⟩
theorem op_ltR {X : Cx} (hu : X.A.units < cLine) : OpR X (compareOp .Lt) (rLtR X.K) := by
  intro pins s σ H x y v u Q I rx ry h
  obtain ⟨a, b, xs, ys, rfl, rfl, ha, hb, q⟩ := h
  cases rx
  cases ry
  obtain ⟨its, r1, p1, _⟩ := I.tuple ha
  obtain ⟨its2, r2, p2, _⟩ := I.tuple hb
  have l1 : its.length = xs.length := by rw [← r1.length, List.length_map]
  have l2 : its2.length = ys.length := by rw [← r2.length, List.length_map]
  have R := Ob.RcOp.tuples_lt (A := X.A) (s := s) (e := fun j => decide (xs.getD j "" = ys.getD j "")) (r := fun j => decide ((xs.getD j "").cps.toList < (ys.getD j "").cps.toList)) p1 p2 hu (fun j h1 h2 => by
    obtain ⟨t, et⟩ := str_atV r1 j (by simpa using h1)
    obtain ⟨t', et'⟩ := str_atV r2 j (by simpa using h2)
    have et : its.toArray[j] = .str (xs.getD j "") t := by simpa using et
    have et' : its2.toArray[j] = .str (ys.getD j "") t' := by simpa using et'
    rw [et, et']
    have z : (xs.getD j "" == ys.getD j "") = decide (xs.getD j "" = ys.getD j "") := by
      by_cases q : xs.getD j "" = ys.getD j ""
      · rw [decide_eq_true q]; exact beq_iff_eq.mpr q
      · rw [decide_eq_false q]; exact beq_eq_false_iff_ne.mpr q
    rw [← z]
    exact SeqAt.EqAt.str_str _ _ _ _) (fun j h1 h2 _ => by
    obtain ⟨t, et⟩ := str_atV r1 j (by simpa using h1)
    obtain ⟨t', et'⟩ := str_atV r2 j (by simpa using h2)
    have et : its.toArray[j] = .str (xs.getD j "") t := by simpa using et
    have et' : its2.toArray[j] = .str (ys.getD j "") t' := by simpa using et'
    rw [et, et']
    exact fun _ _ _ _ h => PyProof.Rows.lt_str h)
  rw [List.size_toArray, List.size_toArray, l1, l2] at R
  have e : Ob.lexAt (fun j => decide (xs.getD j "" = ys.getD j "")) (fun j => decide ((xs.getD j "").cps.toList < (ys.getD j "").cps.toList)) (decide (xs.length < ys.length)) 0 (min xs.length ys.length) = ltR xs ys := by
    rw [lexAt_ltZ _ 0 (by simp), List.drop_zero, List.drop_zero]
    rfl
  rw [e] at R
  have z : wpAny (model X.prog X.w) X.A (compareOp .Lt (.ref a) (.ref b)) (EP X pins σ Q) X.xe s := R X.prog X.w X.xe (EP X pins σ Q) ⟨.bl _, H, I, rfl, q⟩
  exact z
theorem u65 {k : Nat} {A : Around} (r : Room (k + 1) A) : A.units + 65 < cLine := by
  have := r.un
  omega
end MH
/-! own rules: zip of a list and a tuple -/
namespace MH
open PySem PySem.Spec PyProof.Rows L2
end MH
/-! own rules: dicts whose keys are tuples that are known to the object (so that their methods may be called); such tuples made by displays, by + and by t[::-1] -/
namespace MH
open PySem PySem.Spec PyProof.Rows L2
abbrev EKs := List (List Key × Addr × Value)
/-- the tuples that are known to the object, as tuples -/
def dn (H : Hp) : Hp := fun b => match H b with
  | some (.frz o (.tup xs)) => (match o.dict with
    | Option.none => some (.tup xs)
    | _ => none)
  | _ => none
theorem dn_of {H : Hp} {b : Addr} {xs : List V} (h : TupO H b xs) : dn H b = some (.tup xs) := by
  obtain ⟨o, e, d⟩ := h
  unfold dn
  rw [e]
  simp only [d]
theorem of_dn {H : Hp} {b : Addr} {u : HO} (h : dn H b = some u) : ∃ xs, u = .tup xs ∧ TupO H b xs := by
  unfold dn at h
  split at h
  · rename_i o xs e
    split at h
    · rename_i d
      cases h
      exact ⟨xs, rfl, o, e, d⟩
    · cases h
  · cases h
theorem dn_tup {H : Hp} {b : Addr} {xs : List V} (h : dn H b = some (.tup xs)) : TupO H b xs := by
  obtain ⟨ys, e, t⟩ := of_dn h
  cases e
  exact t
/-- the dict at a has these entries -/
def DPhi (P : Program) (w : World) (a : Addr) (xs : EKs) (h : Heap) : Prop := xs.length ≤ sizeLine ∧ (a == sysModules) = false ∧ (xs.map (·.1)).Nodup ∧
  ∃ o es ep, h.get? a = some o ∧ o.ExactDict ∧ o.data = .dict es ep ∧ es.toList = xs.map (entryOfKey (tupleKind (mixKind P w)))
def DictE (P : Program) (w : World) (H : Hp) (a : Addr) (kvs : List (List Key × V)) : Prop := ∃ xs, H a = some (.ext (DPhi P w a xs)) ∧ KT (dn H) kvs xs
theorem kt_same {H H' : Hp} (s : ∀ b o u, H b = some (.frz o u) → H' b = some (.frz o u)) {kvs : List (List Key × V)} {xs : EKs} (k : KT (dn H) kvs xs) : KT (dn H') kvs xs := k.keeps fun b ys e => by
  obtain ⟨o, e, d⟩ := dn_tup e
  exact dn_of ⟨o, s _ _ _ e, d⟩
theorem DictE.same {P : Program} {w : World} {H H' : Hp} {a : Addr} {kvs : List (List Key × V)} (d : DictE P w H a kvs) (s : Same H H') : DictE P w H' a kvs :=
  let ⟨xs, e, k⟩ := d
  ⟨xs, s _ _ e, kt_same (fun b o u h => s _ _ h) k⟩
section
variable {P : Program} {w : World} {H : Hp} {h : Heap} {a b : Addr}
theorem dphi_ok {xs : EKs} (p : DPhi P w a xs h) : ObjOk P w H h a (.ext (DPhi P w a xs)) := by
  refine ⟨p, ?_, fun h1 h2 q k => ?_⟩
  · obtain ⟨_, _, _, o, _, _, e, _⟩ := p
    exact ⟨o, e⟩
  · obtain ⟨q1, q2, q3, o, es, ep, e, r⟩ := q
    exact ⟨q1, q2, q3, o, es, ep, k _ e, r⟩
theorem de_empty (h : Heap) (hb : sysModules < h.objs.size) : ObjOk P w H (h.push { cls := .type "dict", data := .dict #[] }) h.objs.size (.ext (DPhi P w h.objs.size [])) :=
  dphi_ok ⟨Nat.zero_le _, beq_eq_false_iff_ne.mpr (Ne.symm (Nat.ne_of_lt hb)), List.nodup_nil, _, #[], 0, Heap.get?_push_size _ rfl, ⟨rfl, rfl, rfl⟩, rfl, rfl⟩
/-- the tuples alone are as told -/
theorem dn_ok (ok : HOk P w H h) : HOk P w (dn H) h := fun b u e => by
  obtain ⟨xs, rfl, o, e, _⟩ := of_dn e
  obtain ⟨_, z, its, r, q⟩ := (show ObjOk P w H h b (.frz o (.tup xs)) from ok b _ e)
  exact ⟨z, its, r, q⟩
theorem de_heap {kvs : List (List Key × V)} {xs : EKs} (ok : HOk P w H h) (e : H a = some (.ext (DPhi P w a xs))) (k : KT (dn H) kvs xs) : xs.length ≤ sizeLine ∧ (a == sysModules) = false ∧ h.DictOfH (tupleKind (mixKind P w)) a xs := by
  obtain ⟨⟨z, y, nd, o, es, ep, h1, h2, h3, h4⟩, _⟩ := (show ObjOk P w H h a (.ext (DPhi P w a xs)) from ok a _ e)
  refine ⟨z, y, o, es, ep, h1, h2, h3, h4, ?_, nd⟩
  have all : ∀ {l : List (List Key × V)} {m : EKs}, KT (dn H) l m → ∀ x ∈ m, (tupleKind (mixKind P w)).is h x.1 x.2.1 := fun {l m} q => by
    induction q with
    | nil => exact fun x hx => nomatch hx
    | @cons p q ps qs hq t ih =>
      intro x hx
      rcases List.mem_cons.mp hx with e | hx
      · subst e
        exact key_of (dn_ok ok) (by rw [← hq.1]; exact hq.2.1)
      · exact ih x hx
  exact all k
end
section
variable {X : Cx}
/-- D[k] = v, the dict told by its entries -/
theorem d_putE {pins : List (Addr × Obj)} {σ : L2.St} {H : Hp} {s : Shared} {E : Value → Shared → Prop} {D b : Addr} {kvs : List (List Key × V)} {xs : EKs} {k : List Key} {v : V} {u r : Value} {Q : Unit → Shared → Prop} (hu : X.A.units + 64 < cLine) (I : Inv X pins σ H s)
    (hD : H D = some (.ext (DPhi X.prog X.w D xs))) (hk : KT (dn H) kvs xs) (hb : TupO H b (k.map kV)) (hz : kvs.length < sizeLine) (ry : RelV (.ref b) u) (rv : RelV v r)
    (h : ∀ s' xs', Inv X pins σ (upd H D (.ext (DPhi X.prog X.w D xs'))) s' → KT (dn (upd H D (.ext (DPhi X.prog X.w D xs')))) (putK kvs k v) xs' → Q () s') : wpAny (model X.prog X.w) X.A (dictSet D u r) Q E s := by
  cases (show u = Value.ref b from ry)
  obtain ⟨z, hd, dd⟩ := de_heap I.hok hD hk
  have lk : kvs.length = xs.length := Paired.length hk
  have hl : (putK kvs k v).length ≤ sizeLine := by
    have w := length_putK kvs k v
    omega
  refine wpAny_dictSet_heap (hsz := z) (show X.A.units < cLine by omega) (key_of (dn_ok I.hok) (dn_of hb)) dd fun h' dd' hs => ?_
  have rel : KT (dn H) (putK kvs k v) (storedH xs k b r) := KT.put hk k (dn_of hb) rv
  have lp : (putK kvs k v).length = (storedH xs k b r).length := Paired.length rel
  obtain ⟨q, es, ep, hq, g2, g3, g4, _, g5⟩ := dd'
  refine h _ (storedH xs k b r) (d_write I (by rw [hD]; exact True.intro) hs ⟨q, hq⟩ (dphi_ok ⟨by omega, hd, g5, q, es, ep, hq, g2, g3, g4⟩)) (kt_same (fun c o w e => ?_) rel)
  rw [upd_ne (ne_of e hD (fun z => nomatch z))]
  exact e
/-- what a turn of {k: v for ..} is to reach, the dict told by its entries -/
abbrev deTurn (P : Program) (w : World) (g : TG) (tt : TT) (tk tv : TE) (vs : List Nat) (σ : L2.St) (D : Addr) (x : V) (Ht : Hp) (Nx : Hp → Prop) : Prop :=
  g x (wipe σ vs) Ht fun σ2 Ha => wipe σ2 vs = wipe σ vs ∧ tt σ2 Ha fun b Hb => if b = true
    then tk σ2 Hb fun y Hc => tv σ2 Hc fun z Hd => ∃ kvs k a xs,
      y = .ref a ∧ TupO Hd a (k.map kV) ∧ Hd D = some (.ext (DPhi P w D xs)) ∧ KT (dn Hd) kvs xs ∧ kvs.length < sizeLine ∧
        ∀ xs', KT (dn (upd Hd D (.ext (DPhi P w D xs')))) (putK kvs k z) xs' → Nx (upd Hd D (.ext (DPhi P w D xs')))
    else Nx Hb
abbrev DeQ (P : Program) (w : World) (J : It) (body : V → Hp → (Hp → Prop) → Prop) (Hs : Hp) (D : Addr) (Qd : Hp → Prop) : Prop :=
  ∃ W : Nat → Nat → Hp → Prop, (∃ m, W 0 m (upd Hs D (.ext (DPhi P w D [])))) ∧ ∀ i m Hn, W i m Hn → (J.stop i Hn ∧ Qd Hn) ∨
    (J.go i Hn ∧ ∃ Nx : Hp → Prop, (∀ Hf, Nx Hf → ∃ j, j < m ∧ W (i + 1) j Hf) ∧ ∀ x Hy, J.yld i Hn x Hy → body x Hy Nx)
def tDcE (P : Program) (w : World) (wi : TI) (g : TG) (tt : TT) (tk tv : TE) (vs : List Nat) : TE := fun σ H Q =>
  wi σ H fun J Hs => ∀ D, Hs D = none → DeQ P w J (deTurn P w g tt tk tv vs σ D) Hs D fun Hn => Q (.ref D) Hn
section
variable {kx vx tg iter : Expr} {ifs : List Expr} {scope : Scope} {own : List (Str × Nat)} {pos : Pos} {wi : TI} {g : TG} {tt : TT} {tk tv : TE}
theorem dcE_core {pins : List (Addr × Obj)} {s : Shared} {σ : L2.St} {H : Hp} {Q : VK} {pos' : Pos} {use : Option (Value → Sem Unit)} {Qf : Value → Shared → Prop} (hu : X.A.units + 64 < cLine) (hc : X.calm = true) (hN : X.N.Nodup) (I : Inv X pins σ H s) (hi : PI X tg iter wi) (ok : BlkOk X.N X.env.scope scope own)
    (hB : ∀ (s : Shared) (H : Hp) (C : Addr) (cl : List (Str × Addr)) (fp : List Addr), PG (X.blk s H scope (compEnvC scope cl C X.env) fp) tg g ∧ PTs (X.blk s H scope (compEnvC scope cl C X.env) fp) ifs tt ∧ PE (X.blk s H scope (compEnvC scope cl C X.env) fp) kx tk ∧ PE (X.blk s H scope (compEnvC scope cl C X.env) fp) vx tv)
    (hs : ∀ x, foldedSetIterable iter X.env x = pure x) (h : tDcE X.prog X.w wi g tt tk tv (own.map (·.2)) σ H Q)
    (hR : ∀ D C s' m H', Inv X pins σ H' s' → Q (.ref D) H' → s'.heap.Ns C m → FpOk X pins H' C → compPost (model X.prog X.w) X.A X.xe use Qf (.ref D) C (.ok .next) s') :
    wpAny (model X.prog X.w) X.A
      (comprehension (.DictComp kx vx [⟨tg, iter, ifs, 0⟩] scope pos) scope X.env pos' newDict false (eval iter X.env) use)
      Qf X.xe s := by
  have frees : ∀ y ∈ scope.names, y.2 = .free → ∃ c, X.env.cells.lookup y.1 = some c := fun y hy e => (ok.free y hy e).elim (fun k => I.ok.has _ (.inl k)) fun k => I.ok.has _ (.inr k)
  refine wpAny_comprehension_free (use := use) rfl hs (closure_ok frees) ok.kind (fun y hy e => by rw [ok.uniq y hy, e]) (thn (hi.run pins s σ H _ I h) fun xv s1 hx => thn hx fun itv zb hpb => ?_)
  obtain ⟨it, fp, tn, J, Gb, rfl, Jb, T, atb, frb, q⟩ := hpb
  refine wpAny_newObj_type (newEnv_comp ?_)
  -- D, the new dict; C, the block's own names behind it
  obtain ⟨D, hD⟩ : ∃ D, D = zb.heap.objs.size := ⟨_, rfl⟩
  obtain ⟨W, ⟨m0, w0⟩, each⟩ := q D (Jb.hok.fresh (Nat.le_of_eq hD.symm))
  obtain ⟨hpc, ehc⟩ : ∃ hpc, hpc = zb.heap.push { cls := .type "dict", data := .dict #[] } := ⟨_, rfl⟩
  obtain ⟨Gc, eGc⟩ : ∃ Gc, Gc = upd Gb D (.ext (DPhi X.prog X.w D [])) := ⟨_, rfl⟩
  have keep : ∀ b o, zb.heap.get? b = some o → hpc.get? b = some o := fun b o e => by rw [ehc]; exact Heap.get?_push_of_some _ e
  have Jc : Inv X pins σ Gc { zb with heap := hpc } := by
    subst eGc ehc hD
    exact Jb.laid (t' := zb.toks) (fun b o e => Heap.get?_push_of_some _ e) (Nat.le_refl _) (de_empty zb.heap Jb.big)
  rw [← hD, ← ehc]
  rw [← eGc] at w0
  have frc : ∀ b ∈ fp, FpOk X pins Gc b ∧ b < hpc.objs.size := fun b hb => by
    obtain ⟨o, e, _⟩ := T.obj _ _ atb b hb
    have hlt := Heap.lt_size e
    refine ⟨⟨?_, (frb b hb).2⟩, Heap.lt_size (keep b o e)⟩
    rw [eGc, upd_ne (by rw [hD]; exact Nat.ne_of_lt hlt)]
    exact (frb b hb).1
  have atc := T.keep _ _ _ atb fun b _ o e => keep b o e
  have Jd := block_start Jc ok hN frc
  obtain ⟨pg, pt, pk, pv⟩ := hB { zb with heap := hpc } Gc hpc.objs.size (cellsFrom (hpc.objs.size + 1) scope.names (cloFrom X.env.cells scope.names [])) fp
  show codeAny _ _ (.compStart (.DictComp kx vx [⟨tg, iter, ifs, 0⟩] scope pos) 0 (.ref it) (.ref D) (compEnvC scope (cellsFrom (hpc.objs.size + 1) scope.names (cloFrom X.env.cells scope.names [])) hpc.objs.size X.env)) (compPost (model X.prog X.w) X.A X.xe use Qf (.ref D) hpc.objs.size) _
  have cL : (compEnvC scope (cellsFrom (hpc.objs.size + 1) scope.names (cloFrom X.env.cells scope.names [])) hpc.objs.size X.env).locals = hpc.objs.size := rfl
  generalize compEnvC scope (cellsFrom (hpc.objs.size + 1) scope.names (cloFrom X.env.cells scope.names [])) hpc.objs.size X.env = ce at Jd pg pt pk pv cL ⊢
  have atd : tn 0 (pushCells (hpc.push { cls := .type "dict", data := .dict #[] }) scope.names) := T.keep _ _ _ atc fun b _ o e => pushCells_keeps _ _ _ _ (Heap.get?_push_of_some _ e)
  have foot : ∀ {σ' : L2.St} {H' : Hp} {s' : Shared}, Inv (X.blk { zb with heap := hpc } Gc scope ce fp) [] σ' H' s' → (∀ b ∈ fp, H' b = none) → ∀ b ∈ fp, FpOk (X.blk { zb with heap := hpc } Gc scope ce fp) [] H' b := fun {σ' H' s'} Jz hn b hb =>
    ⟨hn b hb, (Jz.ok.exf b hb).1, Jz.ok.exfs b hb, .inl hb, fun x c e => (Jz.ok.exf b hb).2 x c e, fun p hp => absurd (show p ∈ ([] : List (Addr × Obj)) ++ [] from hp) (by simp)⟩
  have loop : codeAny (model X.prog X.w) X.A (.compLoop (.DictComp kx vx [⟨tg, iter, ifs, 0⟩] scope pos) 0 (.ref it) (.ref D) ce) (compPost (model X.prog X.w) X.A X.xe use Qf (.ref D) hpc.objs.size) { { zb with heap := hpc } with heap := pushCells (hpc.push { cls := .type "dict", data := .dict #[] }) scope.names } := by
    refine compLoop_anyD (fun n s' => ∃ i H', Inv (X.blk { zb with heap := hpc } Gc scope ce fp) [] (wipe σ (own.map (·.2))) H' s' ∧ tn i s'.heap ∧ (∀ b ∈ fp, H' b = none) ∧ W i n H') ?_ m0 ⟨0, Gc, Jd, atd, fun b hb => (frc b hb).1.1, w0⟩
    rintro n ze ⟨i, Ge, Je, ate, noe, wie⟩
    rcases each i n Ge wie with ⟨over, done⟩ | ⟨more, Nx, reach, body⟩
    · refine thnF (T.done (X.blk { zb with heap := hpc } Gc scope ce fp) rfl rfl rfl hc i [] ze _ Ge (fun _ _ => False) Je (foot Je noe) ate over) fun r zf ⟨hr, Jf⟩ => ?_
      subst hr
      have Jg : Inv X pins σ Ge zf := Jc.call' (ch := fp) Jf.os Jf.base Jf.hok Jf.bare fun b hb => ⟨(frc b hb).1.2.2.2.1, (frc b hb).1.2.1, (frc b hb).1.2.2.2.2.1, (frc b hb).1.2.2.2.2.2⟩
      obtain ⟨m, hn, _⟩ := Jf.loc
      have nC : Ge hpc.objs.size = none := cL ▸ (show Ge ce.locals = none from Jf.free)
      exact hR D hpc.objs.size zf m Ge Jg done (cL ▸ (show zf.heap.Ns ce.locals m from hn)) (Jc.fpOk (Nat.le_refl _) nC)
    · refine thnF (T.item (X.blk { zb with heap := hpc } Gc scope ce fp) rfl rfl rfl hc i [] ze _ Ge (fun _ _ => False) Je (foot Je noe) ate more) fun r zf ⟨u, hr, hpf⟩ => ?_
      subst hr
      refine thnF hpf fun _ zg ⟨x, Gg, Jg, rvg, ylg, atg, nog⟩ => ?_
      refine thnF (pg.run _ zg _ Gg x u _ (Jg.pinned (foot Jg nog) (T.obj _ _ atg)) rvg (body x Gg ylg)) fun _ zh ⟨σ8, Gh, Jh, wph, goh⟩ => thnF (pt.run _ zh σ8 Gh _ Jh goh) fun b zi ⟨Gi, Ji, goi⟩ => ?_
      have back : ∀ {s' : Shared} {H' : Hp}, Inv (X.blk { zb with heap := hpc } Gc scope ce fp) ([] ++ pinsAt fp zg.heap) σ8 H' s' → Nx H' → ∃ m, m < n ∧ ∃ i H', Inv (X.blk { zb with heap := hpc } Gc scope ce fp) [] (wipe σ (own.map (·.2))) H' s' ∧ tn i s'.heap ∧ (∀ b ∈ fp, H' b = none) ∧ W i m H' := fun {s' H'} Jz nx => by
        obtain ⟨mm, hm, ww⟩ := reach H' nx
        have held : ∀ b ∈ fp, ∀ o, zg.heap.get? b = some o → s'.heap.get? b = some o ∧ H' b = none := fun b hb o e =>
          let z := Jz.pin (b, o) (List.mem_append_right _ (List.mem_append_right _ (mem_pinsAt hb e)))
          ⟨z.1, z.2.1⟩
        refine ⟨mm, hm, i + 1, H', (Jz.unpinned (pins := [])).weak (by rw [← wph, wipe_length]) (fun j v e => (wipe_some (wph ▸ e)).1), T.keep _ _ _ atg fun b hb o e => (held b hb o e).1, fun b hb => ?_, ww⟩
        obtain ⟨o, e, _⟩ := T.obj _ _ atg b hb
        exact (held b hb o e).2
      cases b with
      | false => exact back Ji goi
      | true => exact thnF (pk.run _ zi σ8 Gi _ Ji goi) fun z zj ⟨yk, Gj, Jj, rvj, goj⟩ => thnF (pv.run _ zj σ8 Gj _ Jj goj) fun z2 zk ⟨yv, Gk, Jk, rvk, kvs, k, a, xs, ek, kyk, ddk, kek, ltk, nx⟩ =>
          d_putE (X := X.blk { zb with heap := hpc } Gc scope ce fp) hu Jk ddk kek kyk ltk (ek ▸ rvj) rvk fun zl xs2 Jl ke2 => back Jl (nx xs2 ke2)
  exact codeAny_compStart_dict loop (T.self X.A 0 _ _ _ atd loop)
theorem pe_dcE (hu : X.A.units + 64 < cLine) (hc : X.calm = true) (hN : X.N.Nodup) (hi : PI X tg iter wi) (ok : BlkOk X.N X.env.scope scope own)
    (hB : ∀ (s : Shared) (H : Hp) (C : Addr) (cl : List (Str × Addr)) (fp : List Addr), PG (X.blk s H scope (compEnvC scope cl C X.env) fp) tg g ∧ PTs (X.blk s H scope (compEnvC scope cl C X.env) fp) ifs tt ∧ PE (X.blk s H scope (compEnvC scope cl C X.env) fp) kx tk ∧ PE (X.blk s H scope (compEnvC scope cl C X.env) fp) vx tv)
    (hs : ∀ x, foldedSetIterable iter X.env x = pure x := by intro _; rfl) : PE X (.DictComp kx vx [⟨tg, iter, ifs, 0⟩] scope pos) (tDcE X.prog X.w wi g tt tk tv (own.map (·.2))) := by
  refine ⟨fun pins s σ H Q I h => ?_⟩
  rw [arm_eval_DictComp]
  refine dcE_core hu hc hN I hi ok hB hs h fun D C s' m H' I' q hn f => ⟨m, hn, fun h'' sb => ?_⟩
  exact ⟨.ref D, H', I'.turned (t' := s'.toks) (fun b o hb e => (sb.2 b hb).trans e) f.1 f.2.1 f.2.2.2.1 f.2.2.2.2.1 f.2.2.2.2.2, rfl, q⟩
end
/-- D[k], the dict told by its entries -/
def tDGetE (P : Program) (w : World) (td ty : TE) : TE := fun σ H Q => td σ H fun x H1 => ty σ H1 fun y H2 => ∃ a b kvs k v, x = .ref a ∧ y = .ref b ∧ DictE P w H2 a kvs ∧ TupO H2 b (k.map kV) ∧ valV kvs k = some v ∧ Q v H2
theorem pe_dgetE {P : Program} {w : World} {o i : Expr} {pos : Pos} {td ty : TE} (hP : X.prog = P) (hw : X.w = w) (hu : X.A.units + 1 < cLine) (ho : PE X o td) (hi : PE X i ty) (hs : NoSl i) : PE X (.Subscript o i pos) (tDGetE P w td ty) := by
  subst hP hw
  refine ⟨fun pins s σ H Q I h => ?_⟩
  refine subD_of PySem.F.slot_dict_getitem.lookup hs (thn (ho.run pins s σ H _ I h) fun u s1 ⟨x, H1, I1, rx, q1⟩ => thn (hi.run pins s1 σ H1 _ I1 q1) fun iv s2 ⟨y, H2, I2, ry, a, b, kvs, k, v, ex, ey, ⟨xs, hd, hk⟩, tb, ev, q2⟩ => ?_)
  subst ex ey
  obtain rfl : u = Value.ref a := rx
  obtain rfl : iv = Value.ref b := ry
  obtain ⟨_, _, dd⟩ := de_heap I2.hok hd hk
  obtain ⟨w', hw, rw'⟩ := RelO.some_of (v := v) (o := (atKey xs k).map (·.2)) (by rw [← ev]; exact hk.val k)
  obtain ⟨p, hp, hp2⟩ := Option.map_eq_some_iff.mp hw
  obtain ⟨ob, _, _, e1, e2, _⟩ := id dd
  refine ⟨⟨ob, e1, e2.1⟩, wpAny_getItem_heap (tupleKind_room_in1 hu) (key_of (dn_ok I2.hok) (dn_of tb)) dd hp ⟨v, H2, I2.tok _, ?_, q2⟩⟩
  rw [hp2]
  exact rw'
/-- list(D) -/
def KeysO (H : Hp) (kvs : List (List Key × V)) (bs : List Addr) : Prop := IsKeys (dn H) kvs bs
def rListDE (P : Program) (w : World) : List V → Hp → VK → Prop := fun xs H Q => ∃ d kvs, xs = [V.ref d] ∧ DictE P w H d kvs ∧ ∀ p bs, H p = none → KeysO H kvs bs → Q (.ref p) (upd H p (.lst (bs.map V.ref)))
theorem call_listDE (hc : X.calm = true) : CallR X (.type "list") (rListDE X.prog X.w) := by
  rintro pins s σ H xs us Q I r ⟨d, kvs, rfl, ⟨ks, hd, pr⟩, q⟩
  obtain ⟨u, rfl, rx⟩ := r.one
  cases rx
  obtain ⟨⟨z, hs, nd, o, es, ep, ho, hx, hdt, he⟩, _⟩ := (show ObjOk X.prog X.w H s.heap d (.ext (DPhi X.prog X.w d ks)) from I.hok d _ hd)
  have l1 : es.size = ks.length := size_of_entries he
  refine PySem.W.kdl_call (kdl_raw hs hx hdt) (I.ok.hd hc) ho (by omega) fun h' tk acc' c' kp e it => ?_
  have hl : acc'.toList.length = ks.length := by rw [Array.length_toList, it.1]; exact l1
  have ea : acc'.toList = (ks.map fun x => x.2.1).map Value.ref := by
    refine List.ext_getElem? fun j => ?_
    rw [List.getElem?_map, List.getElem?_map]
    rcases hj : acc'.toList[j]? with _ | v
    · rw [List.getElem?_eq_none (by have := List.getElem?_eq_none_iff.mp hj; omega)]
      rfl
    · obtain ⟨en, hen, hv⟩ := it.2 j v (by rw [← Array.getElem?_toList]; exact hj)
      have qe := entry_at he j
      rw [hen] at qe
      rcases hb : ks[j]? with _ | b
      · rw [hb] at qe
        cases qe
      · rw [hb] at qe
        obtain rfl : en = entryOfKey (tupleKind (mixKind X.prog X.w)) b := Option.some.inj qe
        rw [hv]
        rfl
  refine ⟨.ref s.heap.objs.size, _, I.laid (t' := tk) (o := .lst ((ks.map fun x => x.2.1).map V.ref)) kp (Nat.le_refl _) ⟨by rw [List.length_map, List.length_map]; omega, acc'.toList, c', by rw [ea]; exact L2.vals_refs _, by rw [Array.toArray_toList]; exact e⟩, rfl, q _ (ks.map fun x => x.2.1) (I.hok.fresh (Nat.le_refl _)) (show IsKeys (dn H) kvs _ from isKeys_of pr)⟩
end
/-! ### tuples known to the object: displays, +, t[::-1] -/
section
variable {X : Cx}
def tBackF (K : PySem.W.Frag) (te : TE) : TE := fun σ H Q => te σ H fun x H1 => ∃ a xs, x = .ref a ∧ SqT K H1 a xs ∧ ∀ (p : Addr) (o : Obj), H1 p = none → o.dict = none → Q (.ref p) (upd H1 p (.frz o (.tup xs.reverse)))
theorem pe_backF {e : Expr} {te : TE} {j : Nat} {pos p2 p3 p4 : Pos} (he : PE X e te) : PE X (.Subscript e (.Slice none none (some (.UnaryOp .USub (.Constant (.int 1) j p4) p3)) p2) pos) (tBackF X.K te) := by
  refine ⟨fun pins s σ H Q I h => Subscript_ (thn (he.run pins s σ H _ I h) fun v s1 ⟨x, H1, I1, r1, a, xs, ex, hx, q⟩ => ?_)⟩
  subst ex
  obtain rfl : v = Value.ref a := r1
  refine wpAny_Slice ?_
  rw [evalPart_none, evalPart_some]
  refine wpAny_pure (wpAny_pure (thn ((pe_un un_neg pe_int).run pins s1 σ H1 (fun y H2 => y = .int (-1) ∧ H2 = H1) I1 ⟨1, rfl, rfl, rfl⟩) fun vk s2 ⟨y, H2, I2, ry, ey, eH⟩ => ?_))
  subst ey
  subst eH
  obtain ⟨tk, rfl⟩ := ry
  have I3 : Inv X pins σ H2 { s2 with heap := s2.heap.push { cls := .type "slice", data := .fields #[.none, .none, .int (-1) tk] } } := I2.kept (t' := s2.toks) fun b ob q => Heap.get?_push_of_some _ q
  obtain ⟨its, r, ht, hz⟩ := I3.tuple hx
  have at1 := Heap.get?_push_size (s2.heap.push { cls := .type "slice", data := .fields #[.none, .none, .int (-1) tk] }) (o := { cls := .type "tuple", data := .seq its.toArray.toList.reverse.toArray }) rfl
  refine tail_any (ops := [.ref a, .ref s2.heap.objs.size]) ht.typeIs PyProof.Rows.slot_tuple_getitem.lookup (getItem_back ht (Heap.IsSliceOf.new s2.heap .none .none (.int (-1) tk)) (.int _ _) ?_ (by rw [List.size_toArray, ← r.length]; exact hz)) (by with_unfolding_all rfl)
  exact ⟨.ref _, _, I3.laid (t' := s2.toks) (o := .frz _ (.tup xs.reverse)) (fun b ob q => Heap.get?_push_of_some _ q) (Nat.le_refl _) ⟨at1, by rw [List.length_reverse]; exact hz, _, r.reverse, ⟨_, at1, rfl, _, rfl⟩⟩, rfl, q _ _ (I3.hok.fresh (Nat.le_refl _)) rfl⟩
/-- {k: v for ..} over a tuple that stays: what holds at each turn -/
theorem deE_tup {P : Program} {w : World} {K : PySem.W.Frag} {a : Addr} {xs : List V} {g : TG} {tt : TT} {tk tv : TE} {vs : List Nat} {σ : L2.St} {H1 : Hp} {D : Addr} {Qd : Hp → Prop} (Pv : Nat → Hp → Prop)
    (h0 : Pv 0 (upd H1 D (.ext (DPhi P w D [])))) (hl : ∀ i H, i ≤ xs.length → Pv i H → SqT K H a xs)
    (hs : ∀ i x H, xs[i]? = some x → Pv i H → deTurn P w g tt tk tv vs σ D x H (Pv (i + 1))) (hd : ∀ H, Pv xs.length H → Qd H) : DeQ P w (Itt K a) (deTurn P w g tt tk tv vs σ D) H1 D Qd := by
  refine ⟨fun i m H => i ≤ xs.length ∧ m = xs.length - i ∧ Pv i H, ⟨xs.length, Nat.zero_le _, rfl, h0⟩, fun i m H ⟨hi, em, p⟩ => ?_⟩
  have q := hl i H hi p
  rcases Nat.lt_or_eq_of_le hi with lt | rfl
  · refine .inr ⟨⟨xs, xs[i], q, List.getElem?_eq_getElem lt⟩, Pv (i + 1), fun Hf p' => ⟨xs.length - (i + 1), by omega, lt, rfl, p'⟩, fun x Hy y => ?_⟩
    obtain ⟨rfl, y⟩ := y
    exact hs i x _ (y xs q) p
  · exact .inl ⟨⟨xs, q, Nat.le_refl _⟩, hd H p⟩
end
end MH
/-! f(k = v, ..) without positional values; == of two tuples of the same objects. -/
namespace MH
open PySem PySem.Spec PyProof.Rows L2
/-! ### C.m(e, ..), m a staticmethod -/
/-! ### defs with defaults -/
structure FunV (K : PySem.W.Frag) (x qual : Str) (st : Stmt) (dvs : List V) (f : Addr) (fd : FuncData) : Prop where
  ex : ∃ (oc : Value) (od : Option Addr) (T : Addr) (kV doc pm : Value) (an : Option Addr) (cdv ct : Value) (osl : Array (Option Value)) (o : Obj) (its : List Value) (n : Nat),
    fd = PySem.W.fnOf x qual (defArgs st) (defBody st) (defScope st) (.ref T) kV doc pm an cdv ct ∧ K.lookup f = some ⟨oc, od, .func fd, osl⟩ ∧ PySem.W.codeIn K cdv qual = true ∧ K.lookup T = some o ∧ o.data = .seq its.toArray n ∧ Vals dvs its
  kp : PySem.W.keepIn K (.ref f) = true
section
variable {P : Program} {w : World} {K : PySem.W.Frag} {mg : Str → Option Value} {base : Heap} {x qual : Str} {st : Stmt} {dvs : List V} {f : Addr} {fd : FuncData}
theorem FunV.ok {N ps : List Str} {k : Nat} {sp : Sp} (F : FunV K x qual st dvs f fd) (S : FnScope N ps (defScope st)) (len : ∀ vs H Q E, sp vs H Q E → vs.length = ps.length)
    (hbody : ∀ (cdv : Value) (A : Around) (outer : List Env) (s : Shared) (H : Hp) (vs : List V) (Q : VK) (E : XK), Room k (A.deeper (envOfC qual (defScope st) s.heap.objs.size f cdv)) → sp vs H Q E →
      ∃ t, PSs (cxOf CX0 P w K mg base N qual (defScope st) f cdv A outer s H E).nox (defBody st) t ∧ t { nx := fun _ H' => Q .non H', rt := Q } (start N vs) H) : FnOk P w K mg base CX0 (k + 1) f fd ps sp := by
  obtain ⟨oc, od, T, kV, doc, pm, an, cdv, ct, osl, o, its, n, rfl, lk, hcd, _⟩ := F.ex
  refine fn_of lk hcd S len fun A outer s H vs Q E hr hsp => ?_
  obtain ⟨t, h, q⟩ := hbody cdv A outer s H vs Q E hr hsp
  exact ⟨t, h.nox, q⟩
end
/-- f'..' within a comprehension -/
def tJoinF (ts : List TE) : TE := fun σ H Q => tJs ts Str.empty σ H fun out H1 => Q (.str out) H1
theorem pe_joinedF {X : Cx} {v1 v2 : Expr} {rest : List Expr} {ts : List TE} {pos : Pos} (h : PJ X (v1 :: v2 :: rest) ts) : PE X (.JoinedStr (v1 :: v2 :: rest) pos) (tJoinF ts) := pe_joined h
end MH
/-! sorted of tuples of texts that are all empty, or none of them; fields of a width. -/
namespace MH
open PySem PySem.Spec PyProof.Rows L2 Srt
section
variable {M : Model} {A : Around} {E : Value → Shared → Prop} {s : Shared}
/-- the kind of a list of empty tuples -/
theorem kind_empties {vs : List Value} {Q : SortKind → Shared → Prop} (h0 : 0 < vs.length) (hv : ∀ v ∈ vs, IsRow s.heap v []) (h : Q oneType' s) : wpAny M A (keyKind' vs.toArray) Q E s := by
  obtain ⟨v1, r, rfl⟩ : ∃ v1 r, vs = v1 :: r := by
    match vs, h0 with
    | v1 :: r, _ => exact ⟨v1, r, rfl⟩
  rw [kat_kind_eq, List.mapM_toArray, map_eq_pure_bind]
  refine wpAny_bind (wpAny_bind (PySem.W.kas_mapM (r := none) _ (fun v hm Q' hq => ?_) (wpAny_pure ?_)))
  · obtain ⟨a, o, its, n, rfl, ho, hc, hd, hu⟩ := hv v hm
    cases hu
    rw [PySem.W.kas_first_eq]
    refine wpAny_bind (PySem.W.Looks.here (show PySem.W.Looks M s.heap (typeOf (.ref a)) o.cls from (PySem.W.Looks.ld ho).andThen .now) ?_)
    rw [hc, if_neg (by first | decide | simp)]
    exact wpAny_bind (listItems_at ho hd (wpAny_pure hq))
  · rw [if_neg (by simp), if_neg (by simp)]
    rw [PyProof.Rows.oneTypeOnly'_eq, List.mapM_toArray, map_eq_pure_bind]
    refine wpAny_bind (wpAny_bind (wpAny_bind (PySem.W.kas_mapM (r := Value.type "tuple") _ (fun v hm Q' hq => ?_) (wpAny_pure ?_))))
    · obtain ⟨a, o, its, n, rfl, ho, hc, hd, hu⟩ := hv v hm
      refine PySem.W.Looks.here (show PySem.W.Looks M s.heap (typeOf (.ref a)) o.cls from (PySem.W.Looks.ld ho).andThen .now) ?_
      rw [hc]
      exact hq
    · have hall : ((List.map (fun _ => Value.type "tuple") (v1 :: r)).toArray.all fun x => x == Value.type "tuple") = true := by
        simp only [List.all_toArray, List.all_map, List.all_eq_true]
        intro _ _
        rfl
      have h0 : (List.map (fun _ => Value.type "tuple") (v1 :: r)).toArray[0]? = some (Value.type "tuple") := by simp
      rw [h0]
      simp only [hall, if_true]
      exact wpAny_pure (wpAny_pure h)
end
section
variable {prog : Program} {w : World} {A : Around} {E : Value → Shared → Prop} {s : Shared}
theorem call_tup0_lt {l b : Addr} {Q : Value → Shared → Prop} (hl : IsRow s.heap (.ref l) []) (hb : IsRow s.heap (.ref b) []) (h : Q (.bool false) s) : wpAny (model prog w) A (call (.builtin "tuple.__lt__") [.ref l, .ref b]) Q E s := by
  obtain ⟨a, ⟨cls, dd, data, sl⟩, its, n, e1, ho, hc, hd, hu⟩ := hl
  obtain ⟨a2, ⟨cls2, dd2, data2, sl2⟩, its2, n2, e2, ho2, hc2, hd2, hu2⟩ := hb
  cases e1
  cases e2
  cases hu
  cases hu2
  simp only at hc hd hc2 hd2
  subst hc hd hc2 hd2
  exact call_meets F.slot_tuple_lt ⟨_, ho, rfl⟩ F.entry_tuple_lt (F.args_tuple_lt_2 _ _) (Ob.tuple_ltAt l b #[] #[] n n2 dd dd2 sl sl2 (fun _ => true) (fun _ => true))
    ⟨ho, ho2, fun j h1 _ => absurd h1 (Nat.not_lt_zero _), fun j h1 _ _ => absurd h1 (Nat.not_lt_zero _), h⟩
theorem empty_cmp {vs : List Value} (hu : A.units < cLine) (hp : ∀ v ∈ vs, IsRow s.heap v []) : SrtO.Cmp prog w A s oneType' (fun p => p.1 ∈ vs) (SrtO.lt2 fun _ _ => false) := by
  intro p q hm hm'
  have h1 := hp _ hm
  have h2 := hp _ hm'
  obtain ⟨a, _, _, _, ea, ho, hc, _⟩ := id h1
  obtain ⟨b, _, _, _, eb, _⟩ := id h2
  rw [ea] at h1 ⊢
  rw [eb] at h2 ⊢
  rw [keyLt'_oneType, oneLt'_eq]
  simp only [if_true]
  refine wpAny_bind (wpAny_cRoomFor hu ?_)
  refine wpAny_bind (wpAny_callSpecialIfBound?_slot (T := "tuple") ⟨_, ho, hc⟩ F.slot_tuple_lt (call_tup0_lt h1 h2 ?_))
  exact wpAny_truthy_bool ⟨rfl, rfl⟩
theorem empties_sortableO {a : Addr} {vs : List Value} (hu : A.units < cLine) (h0 : 0 < vs.length) (hp : ∀ v ∈ vs, IsRow s.heap v []) (ha : ∀ o, s.heap.get? a = some o → o.cls ≠ .type "tuple") : SrtO.SortableO prog w A s a vs fun _ _ => false := by
  intro h' keep
  have hp' : ∀ v ∈ vs, IsRow h' v [] := fun v hm => (hp v hm).keeps fun b o e c => keep b o (fun z => by subst z; exact ha o e c) e
  exact ⟨oneType', fun Q E hq => kind_empties h0 hp' hq, empty_cmp hu hp'⟩
end
/-- sorted(xs), xs a list of tuples of texts (k says which), all empty or none: a new list of them, in order -/
def rSortedX (K : PySem.W.Frag) : List V → Hp → VK → Prop := fun vs H Q => ∃ (a : Addr) (ts : List Addr) (k : Addr → List Str), vs = [V.ref a] ∧ SqL K H a (ts.map V.ref) ∧ (∀ t ∈ ts, SqT K H t ((k t).map V.str)) ∧ ((∀ t ∈ ts, k t ≠ []) ∨ ∀ t ∈ ts, k t = []) ∧
  ∀ (ts' : List Addr) (p : Addr), ts'.Perm ts → (ts'.map k).Pairwise (fun x y => ltR y x = false) → H p = none → Q (.ref p) (upd H p (.lst (ts'.map V.ref)))
theorem swo_none : SrtO.Swo (α := Value) fun _ _ => false := by
  refine ⟨fun x y h => ?_, fun x y z h1 h2 => rfl⟩
  cases h
section
variable {X : Cx}
theorem cr_sortedX (hu : X.A.in1.in1.units < cLine) : CallR X (.builtin "sorted") (rSortedX X.K) := by
  intro pins s σ H xs us Q I r h
  obtain ⟨a, ts, k, rfl, hs, hk, hc, q⟩ := h
  rcases hc with hc | hc
  · exact cr_sortedR pins s σ H _ us Q I r ⟨a, ts, k, rfl, hs, fun t ht => ⟨hk t ht, hc t ht⟩, q⟩
  obtain ⟨its, rv, hl, hz⟩ := I.list hs
  obtain ⟨u, rfl, ru⟩ := vals1 r
  obtain rfl : u = Value.ref a := ru
  have ei := vals_refs rv
  subst ei
  have hz' : (ts.map Value.ref).length ≤ sizeLine := by
    rw [← rv.length]
    exact hz
  have rows : ∀ v ∈ ts.map Value.ref, IsRow s.heap v [] := fun v hv => by
    obtain ⟨t, ht, rfl⟩ := List.mem_map.mp hv
    have h1 := hk t ht
    rw [hc t ht] at h1
    obtain ⟨us, r1, ⟨o, ho, hc, n, hd⟩, _⟩ := I.tuple h1
    exact ⟨t, o, us, n, rfl, ho, hc, hd, r1⟩
  refine SrtO.sorted_ord swo_none hl.isList hz' (fun h2 h₁ a' ha kk => ?_) fun out h1 h2 => ?_
  · refine empties_sortableO (s := { s with heap := h₁ }) hu (by omega) (fun v hm => (rows v hm).keeps fun b o e _ => (kk b o e).2) fun o e => ?_
    have e' : some o = some (seqObj "list" (ts.map Value.ref).toArray 0) := e.symm.trans ha
    cases e'
    intro c
    exact absurd (Value.type.inj c) (by decide)
  · obtain ⟨ep, he'⟩ := PyProof.Rows.sortedAll_at s.heap (ts.map Value.ref) out.toArray
    have pm := h2.perm
    have eo : out = (out.map refA).map Value.ref := by
      rw [List.map_map]
      have : ∀ v ∈ out, (Value.ref ∘ refA) v = v := fun v hv => by
        obtain ⟨t, _, rfl⟩ := List.mem_map.mp (pm.mem_iff.mp hv)
        rfl
      exact ((List.map_congr_left (g := id) this).trans (List.map_id _)).symm
    have pm2 : (out.map refA).Perm ts := by
      have z := pm.map refA
      rw [List.map_map] at z
      have e2 : ts.map (refA ∘ Value.ref) = ts := by
        have : (refA ∘ Value.ref) = id := rfl
        rw [this, List.map_id]
      rw [e2] at z
      exact z
    have so : ((out.map refA).map k).Pairwise (fun x y => ltR y x = false) := by
      have e0 : (out.map refA).map k = (out.map refA).map fun _ => [] := List.map_congr_left fun t ht => hc t (pm2.subset ht)
      rw [e0]
      exact List.pairwise_map.mpr (List.pairwise_iff_forall_sublist.mpr fun _ => ltR_nil_nil)
    have lo : ((out.map refA).map V.ref).length ≤ sizeLine := by
      rw [List.length_map, pm2.length_eq]
      rw [List.length_map] at hz'
      exact hz'
    have vo : Vals ((out.map refA).map V.ref) out := by
      have z := refs_vals (out.map refA)
      rw [← eo] at z
      exact z
    exact ⟨.ref _, upd H (s.heap.objs.size + 1) (.lst ((out.map refA).map V.ref)), I.laid (t' := s.toks) (fun _ _ => PyProof.Rows.sortedAll_old) (Nat.le_succ _) ⟨lo, out, ep, vo, he'⟩, rfl, q _ _ pm2 so (I.hok.fresh (Nat.le_succ _))⟩
end
theorem u2 {k : Nat} {A : Around} (hr : Room k A) : A.in1.in1.units < cLine := by
  have := hr.un
  show A.units + 1 + 1 < _
  omega
/-! ### fields of a width -/
section
open Builtin Builtin.Str Builtin.Float
def f8 : Builtin.Float.FormatSpec := { fill := 32, align := 60, sign := none, noNeg0 := false, alt := false, width := some 8, grouping := none, precision := none, type := none }
theorem parse8 : Builtin.Float.parseFormatSpec (Str.ofString "<8").cps.toList "str" 60 = .ok f8 := by rfl
theorem sub_all (x : Str) : Builtin.Str.strSub x 0 x.length = x := by
  unfold Builtin.Str.strSub
  have e : x.cps.extract 0 x.cps.size = x.cps := by simp
  show (⟨x.cps.extract 0 x.cps.size⟩ : Str) = x
  rw [e]
theorem fmt_l8 (x : Str) (t u : Tok) : Meets (Builtin.«str.__format__» ⟨[.str x t, .str "<8" u], []⟩) (fun _ R s => ∀ t' k, R (.ok (.ret (.str (Txt.ljust x 8) t'))) { s with toks := k }) := by
  apply PySem.W.KPc.meets_of
  intro prog w A s Q E h
  unfold Builtin.«str.__format__»
  refine wpAny_bind (wpAny_of_eq (a := (_, _, _)) rfl ?_)
  refine wpAny_bind (wpAny_of_eq (a := some _) rfl ?_)
  kxf_if
  kxf_if
  refine wpAny_bind (PySem.W.KXf.cut_str ?_)
  rw [parse8]
  by_cases c : 8 ≤ x.length
  · have e : Builtin.Str.strField x f8 "str" = .ok none := by
      unfold Builtin.Str.strField
      simp [f8, c]
      rfl
    have ej : Txt.ljust x 8 = x := by
      unfold Txt.ljust
      rw [if_pos (by omega)]
    rw [ej] at h
    dsimp only
    split
    · rename_i m heq
      have z : (do let r ← Builtin.Str.strField x f8 "str"; pure (some r) : Except String _) = .error m := heq
      rw [e] at z
      cases z
    · rename_i heq
      have z : (do let r ← Builtin.Str.strField x f8 "str"; pure (some r) : Except String _) = .ok none := heq
      rw [e] at z
      cases z
    · exact wpAny_bind (wpAny_rule (PySem.W.KXf.ret_same rfl h))
    · rename_i y heq
      have z : (do let r ← Builtin.Str.strField x f8 "str"; pure (some r) : Except String _) = .ok (some (some y)) := heq
      rw [e] at z
      cases z
  · have e : Builtin.Str.strField x f8 "str" = .ok (some (Builtin.Str.padded x 0 (8 - x.length) 32)) := by
      unfold Builtin.Str.strField
      simp [f8, c]
      rw [sub_all]
      rfl
    have ej : Txt.ljust x 8 = Builtin.Str.padded x 0 (8 - x.length) 32 := by
      unfold Txt.ljust
      rw [if_neg (by omega)]
      rfl
    rw [ej] at h
    dsimp only
    split
    · rename_i m heq
      have z : (do let r ← Builtin.Str.strField x f8 "str"; pure (some r) : Except String _) = .error m := heq
      rw [e] at z
      cases z
    · rename_i heq
      have z : (do let r ← Builtin.Str.strField x f8 "str"; pure (some r) : Except String _) = .ok none := heq
      rw [e] at z
      cases z
    · rename_i heq
      have z : (do let r ← Builtin.Str.strField x f8 "str"; pure (some r) : Except String _) = .ok (some none) := heq
      rw [e] at z
      cases z
    · rename_i y heq
      have z : (do let r ← Builtin.Str.strField x f8 "str"; pure (some r) : Except String _) = .ok (some (some y)) := heq
      rw [e] at z
      cases z
      exact PySem.W.KXf.ret_text rfl (fits_padR (x := x) (i := 8) 32 rfl (by omega)) h
end
theorem fmt_r5 : ∀ (n : Nat) (t u : Tok), n < 25 → Meets (Builtin.«int.__format__» ⟨[.int (n : Int) t, .str ">5" u], []⟩) (fun _ R s => ∀ t' k, R (.ok (.ret (.str (Txt.rjust (Str.ofString (toString (n : Int))) 5) t'))) { s with toks := k })
  | 0, t, u, _ => by
    revert u
    kxf_run_i
  | 1, t, u, _ => by
    revert u
    kxf_run_i
  | 2, t, u, _ => by
    revert u
    kxf_run_i
  | 3, t, u, _ => by
    revert u
    kxf_run_i
  | 4, t, u, _ => by
    revert u
    kxf_run_i
  | 5, t, u, _ => by
    revert u
    kxf_run_i
  | 6, t, u, _ => by
    revert u
    kxf_run_i
  | 7, t, u, _ => by
    revert u
    kxf_run_i
  | 8, t, u, _ => by
    revert u
    kxf_run_i
  | 9, t, u, _ => by
    revert u
    kxf_run_i
  | 10, t, u, _ => by
    revert u
    kxf_run_i
  | 11, t, u, _ => by
    revert u
    kxf_run_i
  | 12, t, u, _ => by
    revert u
    kxf_run_i
  | 13, t, u, _ => by
    revert u
    kxf_run_i
  | 14, t, u, _ => by
    revert u
    kxf_run_i
  | 15, t, u, _ => by
    revert u
    kxf_run_i
  | 16, t, u, _ => by
    revert u
    kxf_run_i
  | 17, t, u, _ => by
    revert u
    kxf_run_i
  | 18, t, u, _ => by
    revert u
    kxf_run_i
  | 19, t, u, _ => by
    revert u
    kxf_run_i
  | 20, t, u, _ => by
    revert u
    kxf_run_i
  | 21, t, u, _ => by
    revert u
    kxf_run_i
  | 22, t, u, _ => by
    revert u
    kxf_run_i
  | 23, t, u, _ => by
    revert u
    kxf_run_i
  | 24, t, u, _ => by
    revert u
    kxf_run_i
  | n + 25, _, _, h => absurd h (by omega)
section
variable {X : Cx}
/-- {x:<8}, x a text -/
def tFmtL8 (te : TE) : TE := fun σ H Q => te σ H fun x H1 => ∃ y : Str, x = .str y ∧ Q (.str (Txt.ljust y 8)) H1
theorem pe_fmtL8 {e : Expr} {te : TE} {pos p1 p2 : Pos} {kd : Nat} (he : PE X e te) : PE X (.FormattedValue e (-1) (some (.JoinedStr [.Constant (.str "<8") kd p1] p2)) pos) (tFmtL8 te) := by
  refine ⟨fun pins s σ H Q I h => ?_⟩
  refine wpAny_FormattedValue_spec (thn (he.run pins s σ H _ I h) fun v s1 hv => ?_)
  obtain ⟨x, H1, I1, r1, y, rfl, q⟩ := hv
  obtain ⟨t, rfl⟩ := r1
  refine wpAny_JoinedStr_one (thn ((pe_str (X := X)).run pins s1 σ H1 (fun x H' => x = .str "<8" ∧ Q (.str (Txt.ljust y 8)) H') I1 ⟨rfl, q⟩) fun v2 s2 hv2 => ?_)
  obtain ⟨x2, H2, I2, r2, rfl, q2⟩ := hv2
  obtain ⟨t2, rfl⟩ := r2
  refine ⟨_, _, rfl, PySem.W.KXf.field_str rfl rfl (by decide +kernel) (by decide +kernel) (fun u => fmt_l8 y t u) fun t' k => ?_⟩
  exact ⟨.str _, H2, I2.tok _, ⟨_, rfl⟩, q2⟩
/-- {n:>5}, n a small number -/
def tFmtR5 (te : TE) : TE := fun σ H Q => te σ H fun x H1 => ∃ n : Nat, x = .int (n : Int) ∧ n < 25 ∧ Q (.str (Txt.rjust (Str.ofString (toString (n : Int))) 5)) H1
theorem pe_fmtR5 {e : Expr} {te : TE} {pos p1 p2 : Pos} {kd : Nat} (he : PE X e te) : PE X (.FormattedValue e (-1) (some (.JoinedStr [.Constant (.str ">5") kd p1] p2)) pos) (tFmtR5 te) := by
  refine ⟨fun pins s σ H Q I h => ?_⟩
  refine wpAny_FormattedValue_spec (thn (he.run pins s σ H _ I h) fun v s1 hv => ?_)
  obtain ⟨x, H1, I1, r1, n, rfl, hn, q⟩ := hv
  obtain ⟨t, rfl⟩ := r1
  refine wpAny_JoinedStr_one (thn ((pe_str (X := X)).run pins s1 σ H1 (fun x H' => x = .str ">5" ∧ Q (.str (Txt.rjust (Str.ofString (toString (n : Int))) 5)) H') I1 ⟨rfl, q⟩) fun v2 s2 hv2 => ?_)
  obtain ⟨x2, H2, I2, r2, rfl, q2⟩ := hv2
  obtain ⟨t2, rfl⟩ := r2
  refine ⟨_, _, rfl, PySem.W.KXf.field_int rfl (by decide +kernel) (by decide +kernel) (fun u => fmt_r5 n t u hn) fun t' k => ?_⟩
  exact ⟨.str _, H2, I2.tok _, ⟨_, rfl⟩, q2⟩
end
/-- o.m(x) of a built-in type, within a comprehension -/
theorem pe_bmK {X : Cx} {K : PySem.W.Frag} {o e : Expr} {es : List Expr} {to : TE} {t : TA} {name : Str} {apos cpos : Pos} {T id : String} {r : V → List V → Hp → VK → Prop} (hK : X.K = K) (pa : PlainAttrs T) (slot : Slot T name id) (hty : typeOf (.builtin id) = pure (.type "method_descriptor")) (hm : MtR X id r) (ho : PE X o to) (ha : PA X (e :: es) t)
    (hbase : attributeBase o name X.env (eval o X.env) = eval o X.env := by rfl)
    (hfew : ((backTo cpos (starEach (e :: es) X.env)).all (fun x => !x.1) && (backToKw cpos (keywordEach [] X.env)).all (fun x => x.1.isSome)
      && decide ((e :: es).length + ([] : List Keyword).length + (if ([] : List Keyword).isEmpty then 0 else 1) < 30)) = true := by rfl)
    (hline : (apos.endLine == cpos.line) = true := by rfl) (hs : starEach (e :: es) X.env = (false, eval e X.env) :: starEach es X.env := by rfl) (hplain : (backTo cpos (starEach es X.env)).any (·.1) = false := by rfl) :
    PE X (.Call (.Attribute o name apos) (e :: es) [] cpos) (tBM K T r to t) := by
  subst hK
  exact pe_bm pa slot hty hm ho ha hbase hfew hline hs hplain
end MH
noncomputable section
/-! own work: the head of a law in cuts, each cut one kernel run between two states that are written out once -/
namespace MN
open PySem PySem.W PySem.Calls PyProof.Rows HandSHeadRun
section
variable (st : SharedT → Thread → Option (SharedT × Thread)) (n0 : Nat) (ann : Option Value)
/-- one step that the top may do -/
def one (s : SharedT) (t : Thread) : Option (SharedT × Thread) := match stepOk n0 ann t with
  | true => st s t
  | false => none
/-- statements of the top, to their end -/
def seg : Nat → SharedT → Thread → Option (Flow × SharedT × Code × Pos)
  | 0, _, _ => none
  | m + 1, s, t => match endAt 1 t with
    | some f => some (f, s, t.code, t.pos)
    | none => match one st n0 ann s t with
      | some r => frS r.1 fun s' => seg m s' r.2
      | none => none
/-- the first steps of the top -/
def fore : Nat → SharedT → Thread → Option (SharedT × Thread)
  | 0, s, t => some (s, t)
  | m + 1, s, t => match through t with
    | true => none
    | false => match one st n0 ann s t with
      | some r => frS r.1 fun s' => fore m s' r.2
      | none => none
end
section
variable {tb : String → Option Builtin} {p : Program} {w : World} {n0 : Nat} {ann : Option Value}
theorem one_ok {s s2 : SharedT} {t t2 : Thread} (h : one (stepT (denote tb) p w) n0 ann s t = some (s2, t2)) : stepOk n0 ann t = true ∧ step (denote tb) p w s.abs t = .go s2.abs t2 := by
  unfold one at h
  split at h
  · rename_i a
    exact ⟨a, stepT_spec h⟩
  · cases h
theorem seg_ok {f : Flow} {s2 : SharedT} {c : Code} {q : Pos} : ∀ {m : Nat} {s : SharedT} {t : Thread}, seg (stepT (denote tb) p w) n0 ann m s t = some (f, s2, c, q) → segRun tb p w n0 ann 1 m s.abs t = some (f, s2.abs, c, q)
  | 0, _, _, h => nomatch h
  | m + 1, s, t, h => by
    simp only [seg] at h
    unfold segRun
    split at h
    · rename_i a
      rw [a]
      cases h
      rfl
    · rename_i a
      rw [a]
      split at h
      · rename_i r b
        obtain ⟨u, v⟩ := r
        obtain ⟨d, e⟩ := one_ok b
        rw [frS_eq] at h
        simp only [d, e]
        exact seg_ok h
      · cases h
theorem fore_ok {s2 : SharedT} {t2 : Thread} : ∀ {m : Nat} {s : SharedT} {t : Thread}, fore (stepT (denote tb) p w) n0 ann m s t = some (s2, t2) → topGo tb p w n0 ann m s.abs t = some (s2.abs, t2)
  | 0, s, t, h => by
    cases h
    rfl
  | m + 1, s, t, h => by
    simp only [fore] at h
    unfold topGo
    split at h
    · cases h
    · rename_i a
      rw [a]
      split at h
      · rename_i r b
        obtain ⟨u, v⟩ := r
        obtain ⟨d, e⟩ := one_ok b
        rw [frS_eq] at h
        simp only [d, e]
        exact fore_ok h
      · cases h
end
/-- the state behind the boot, off the tree -/
def bootQ (w : World) (os : OsState) (k : SharedT → Option (SharedT × Thread)) : Option (SharedT × Thread) := match putAll (boot_heap w.params).objs.toList .nil 0 with
  | some (t, n) => frNat n fun n => k (bootT w os (t, n))
  | none => none
theorem bootQ_ok {w : World} {os : OsState} {k : SharedT → Option (SharedT × Thread)} {r : SharedT × Thread} (h : bootQ w os k = some r) : ∃ s : SharedT, s.abs = ⟨boot_heap w.params, #[], boot_drawn, boot_toks, os⟩ ∧ k s = some r := by
  unfold bootQ at h
  split at h
  · rename_i t n e
    rw [frNat_eq] at h
    refine ⟨_, ?_, h⟩
    show (⟨absHeap t n (boot_heap w.params).life, #[], boot_drawn, boot_toks, os⟩ : Shared) = _
    rw [putAll_heap e]
  · cases h
/-- the top runs from s, t to r in N steps at most -/
def Run (p : Program) (w : World) (n0 : Nat) (ann : Option Value) (N : Nat) (s : SharedT) (t : Thread) (r : SharedT) : Prop := topRun treeTable p w n0 ann N s.abs t = some r.abs
def exQ : List Stmt → Env → Sem Flow := PySem.W.Fast.tw12563942051412417395
theorem exQ_eq : @PySem.execs = exQ := PySem.W.Fast.te12563942051412417395
abbrev piecesQ (l : List Stmt) (env : Env) (c : Code) (p : Pos) (B : List Frame) : Thread := ⟨(exQ l env).wrap doneF deadEnd id id, c, p, B⟩
abbrev restQ (l : List Stmt) (env : Env) (c : Code) (p : Pos) (B : List Frame) : Thread := ⟨(exQ l env).wrap doneF (leaveH env) id id, c, p, B⟩
theorem piecesQ_eq (l : List Stmt) (env : Env) (c : Code) (p : Pos) (B : List Frame) : piecesOf l env c p B = piecesQ l env c p B := by
  show (⟨(execs l env).wrap doneF deadEnd id id, c, p, B⟩ : Thread) = ⟨(exQ l env).wrap doneF deadEnd id id, c, p, B⟩
  rw [exQ_eq]
theorem restQ_eq (l : List Stmt) (env : Env) (c : Code) (p : Pos) (B : List Frame) : restOf l env c p B = restQ l env c p B := by
  show (⟨(execs l env).wrap doneF (leaveH env) id id, c, p, B⟩ : Thread) = ⟨(exQ l env).wrap doneF (leaveH env) id id, c, p, B⟩
  rw [exQ_eq]
abbrev stQ (p : Program) (w : World) := stepQ (denQ tabQ) p w
theorem st_eq (p : Program) (w : World) : stepT (denote treeTable) p w = stQ p w := by
  rw [stepQ_eq, denQ_eq, tabQ_eq]
section
variable {p : Program} {w : World} {n0 : Nat} {ann : Option Value} {env : Env} {q : Pos}
theorem run_end {m : Nat} {b : List Stmt} {s r : SharedT} {c : Code} {u : Pos} (h : goF (stQ p w) n0 ann m s (restQ b env c u [topFrame q]) = some r) : Run p w n0 ann m s (restOf b env c u [topFrame q]) r := goF_ok (by rw [st_eq, restQ_eq]; exact h)
theorem run_cut {m N i j k : Nat} {b : List Stmt} {s s2 r : SharedT} {c : Code} {u v : Pos} (hk : i + k = j) (h : seg (stQ p w) n0 ann m s (piecesQ ((b.drop i).take k) env c u [topFrame q]) = some (.next, s2, c, v))
    (z : Run p w n0 ann N s2 (restOf (b.drop j) env c v [topFrame q]) r) : Run p w n0 ann (m + N) s (restOf (b.drop i) env c u [topFrame q]) r := by
  have e : b.drop i = (b.drop i).take k ++ b.drop j := by
    rw [← hk, ← List.drop_drop]
    exact (List.take_append_drop k _).symm
  rw [e]
  exact piece_app (seg_ok (by rw [st_eq, piecesQ_eq]; exact h)) z
theorem run_block {m N : Nat} {b : List Stmt} {s s2 r : SharedT} {c : Code} {u v : Pos} (h : seg (stQ p w) n0 ann m s (blockOf b env c u [topFrame q]) = some (.next, s2, c, v))
    (z : Run p w n0 ann N s2 (restOf b env c v [topFrame q]) r) : Run p w n0 ann (m + N) s ⟨denote treeTable (.body b env), c, u, [topFrame q]⟩ r := piece_block (seg_ok (by rw [st_eq]; exact h)) z
theorem run_fore {m N : Nat} {b : List Stmt} {s s2 r : SharedT} {t : Thread} {c : Code} {u : Pos} (h : fore (stQ p w) n0 ann m s t = some (s2, ⟨denQ tabQ (.body b env), c, u, [topFrame q]⟩))
    (z : Run p w n0 ann N s2 ⟨denote treeTable (.body b env), c, u, [topFrame q]⟩ r) : Run p w n0 ann (m + N) s t r := go_top (fore_ok (by rw [st_eq, denQ_eq, tabQ_eq]; exact h)) z
end
/-- what is looked at behind the top -/
abbrev Looks (p q : Program) (loose : List PySem.Str) (Xt : Shared → Bool) (as : List Addr) (w : World) (s : SharedT) := (looksF p (boot_heap w.params) s.abs, seenQ q loose (importedModules p.main.body) Xt s.abs, as.map (getT s))
abbrev Good (q : Program) (loose : List PySem.Str) (K : Params → Frag) (w : World) := (true, openGood q loose, (K w.params).map fun x => some x.2)
theorem left_cuts {p q : Program} {loose : List PySem.Str} {Xt : Shared → Bool} {K : Params → Frag} {as : List Addr} {ek : ∀ P, as = (K P).map (·.1)} {N M : Nat}
    (e : opening p = plainProg p.main.scope.names) (hN : Nat.ble 600 N = true) (f : ∀ s, fenceModules? p s = some s) (le : Nat.ble M N = true)
    (run : ∀ (w : World) (os : OsState), ∃ s r : SharedT, s.abs = ⟨boot_heap w.params, #[], boot_drawn, boot_toks, os⟩ ∧ Run p w (boot_heap w.params).objs.size (bootAnn w) M s (topStub p) r ∧ Looks p q loose Xt as w r = Good q loose K w) :
    LeftO p q loose Xt (Hook.obs (kHook K as ek)) (Hook.val (kHook K as ek)) N true := fun w => by
  obtain ⟨⟨h, gs, d, k, os⟩, a, a2⟩ := Option.map_eq_some_iff.mp (boot_open e hN f w)
  simp only [Prod.mk.injEq] at a2
  obtain ⟨rfl, rfl, rfl, rfl⟩ := a2
  obtain ⟨s, r, hs, hr, hl⟩ := run w os
  simp only [Prod.mk.injEq] at hl
  obtain ⟨l1, l2, l3⟩ := hl
  have l4 : Hook.obs (kHook K as ek) r.abs = (K w.params).map fun x => some x.2 := by
    rw [← l3]
    exact (List.map_congr_left fun a _ => getT_eq r a).symm
  have g : topRun treeTable p w (boot_heap w.params).objs.size (bootAnn w) N s.abs (topStub p) = some r.abs := by
    have g1 := topRun_mono (N - M) _ _ _ _ hr
    rwa [Nat.add_sub_cancel' (Nat.le_of_ble_eq_true le)] at g1
  rw [hs] at g
  have t : topFrom treeTable p w N ⟨boot_heap w.params, Array.mk [], boot_drawn, boot_toks, os⟩ = some r.abs := by
    simp only [topFrom]
    rw [boot_ns]
    show Option.bind (topRun treeTable p w (boot_heap w.params).objs.size (bootAnn w) N ⟨boot_heap w.params, #[], boot_drawn, boot_toks, os⟩ (topStub p)) _ = _
    rw [g]
    have l1b : (staticsOk (importedModules p.main.body) (boot_heap w.params) r.abs.heap && namesBound p r.abs.heap && gensDone r.abs && laidKept (boot_heap w.params) r.abs.heap) = true := l1
    show (match staticsOk (importedModules p.main.body) (boot_heap w.params) r.abs.heap && namesBound p r.abs.heap && gensDone r.abs && laidKept (boot_heap w.params) r.abs.heap with | true => some r.abs | false => none) = _
    rw [l1b]
  simp only [openEnds, a]
  show Option.map _ (topFrom treeTable p w N _) = _
  rw [t]
  refine congrArg some (Prod.ext ?_ l4)
  rw [← l2]
  exact seenQ_eq _ _ _ _ _
end MN
end
namespace MH
open PySem PySem.Spec PyProof.Rows L2
def topS (i : Nat) : Stmt := PySem.Challenge.pw_menuhouses_k20_tables_of_houses.main.body.getD i (.Pass ⟨0, 0, 0, 0⟩)
abbrev st_is_name : Stmt := topS 22
abbrev names_is_name : List Str := ["value", "sign"]
theorem sc_is_name : FnScope names_is_name ["value"] (defScope st_is_name) := ⟨rfl, rfl, rfl, by decide +kernel, rfl, by decide +kernel, by decide +kernel⟩
abbrev st_is_filled_tuple : Stmt := topS 23
abbrev names_is_filled_tuple : List Str := ["value"]
theorem sc_is_filled_tuple : FnScope names_is_filled_tuple ["value"] (defScope st_is_filled_tuple) := ⟨rfl, rfl, rfl, by decide +kernel, rfl, by decide +kernel, by decide +kernel⟩
abbrev st_is_one_of : Stmt := topS 24
abbrev st_first_wrong_in_row : Stmt := topS 25
abbrev names_first_wrong_in_row : List Str := ["row", "at", "name"]
theorem sc_first_wrong_in_row : FnScope names_first_wrong_in_row ["row"] (defScope st_first_wrong_in_row) := ⟨rfl, rfl, rfl, by decide +kernel, rfl, by decide +kernel, by decide +kernel⟩
abbrev st_check_row : Stmt := topS 27
abbrev names_check_row : List Str := ["row", "wrong"]
theorem sc_check_row : FnScope names_check_row ["row"] (defScope st_check_row) := ⟨rfl, rfl, rfl, by decide +kernel, rfl, by decide +kernel, by decide +kernel⟩
abbrev st_index_of : Stmt := topS 32
abbrev names_index_of : List Str := ["name", "names", "at", "other"]
theorem sc_index_of : FnScope names_index_of ["name", "names"] (defScope st_index_of) := ⟨rfl, rfl, rfl, by decide +kernel, rfl, by decide +kernel, by decide +kernel⟩
abbrev st_mask_of : Stmt := topS 33
abbrev names_mask_of : List Str := ["names", "things", "mask", "name"]
theorem sc_mask_of : FnScope names_mask_of ["names", "things"] (defScope st_mask_of) := ⟨rfl, rfl, rfl, by decide +kernel, rfl, by decide +kernel, by decide +kernel⟩
abbrev st_below_masks : Stmt := topS 36
abbrev names_below_masks : List Str := ["row", "things", "thing"]
theorem sc_below_masks : FnScope names_below_masks ["row", "things"] (defScope st_below_masks) := ⟨rfl, rfl, rfl, by decide +kernel, rfl, by decide +kernel, by decide +kernel⟩
abbrev st_is_covered : Stmt := topS 37
abbrev names_is_covered : List Str := ["mask", "masks", "other"]
theorem sc_is_covered : FnScope names_is_covered ["mask", "masks"] (defScope st_is_covered) := ⟨rfl, rfl, rfl, by decide +kernel, rfl, by decide +kernel, by decide +kernel⟩
abbrev st_greatest : Stmt := topS 38
abbrev names_greatest : List Str := ["masks", "found", "mask"]
theorem sc_greatest : FnScope names_greatest ["masks"] (defScope st_greatest) := ⟨rfl, rfl, rfl, by decide +kernel, rfl, by decide +kernel, by decide +kernel⟩
abbrev st_RankingD_initD : Stmt := inClass (topS 55) 0
abbrev names_RankingD_initD : List Str := ["self", "row"]
theorem sc_RankingD_initD : FnScope names_RankingD_initD ["self", "row"] (defScope st_RankingD_initD) := ⟨rfl, rfl, rfl, by decide +kernel, rfl, by decide +kernel, by decide +kernel⟩
abbrev st_Ranking_row : Stmt := inClass (topS 55) 3
abbrev names_Ranking_row : List Str := ["self"]
theorem sc_Ranking_row : FnScope names_Ranking_row ["self"] (defScope st_Ranking_row) := ⟨rfl, rfl, rfl, by decide +kernel, rfl, by decide +kernel, by decide +kernel⟩
abbrev st_Ranking_things : Stmt := inClass (topS 55) 4
abbrev names_Ranking_things : List Str := ["self"]
theorem sc_Ranking_things : FnScope names_Ranking_things ["self"] (defScope st_Ranking_things) := ⟨rfl, rfl, rfl, by decide +kernel, rfl, by decide +kernel, by decide +kernel⟩
abbrev st_RankingD_strD : Stmt := inClass (topS 55) 14
abbrev st_check_house : Stmt := topS 57
abbrev st_check_rankings : Stmt := topS 59
abbrev names_check_rankings : List Str := ["rankings", "at", "ranking"]
theorem sc_check_rankings : FnScope names_check_rankings ["rankings"] (defScope st_check_rankings) := ⟨rfl, rfl, rfl, by decide +kernel, rfl, by decide +kernel, by decide +kernel⟩
abbrev st_are_rows_of_a_house : Stmt := topS 60
abbrev names_are_rows_of_a_house : List Str := ["rows", "row", "later"]
theorem sc_are_rows_of_a_house : FnScope names_are_rows_of_a_house ["rows"] (defScope st_are_rows_of_a_house) := ⟨rfl, rfl, rfl, by decide +kernel, rfl, by decide +kernel, by decide +kernel⟩
abbrev st_HouseD_initD : Stmt := inClass (topS 62) 0
abbrev names_HouseD_initD : List Str := ["self", "rankings", "by_row", "rows", "things", "below", "ranking", "row", "at", "masks"]
theorem sc_HouseD_initD : FnScope names_HouseD_initD ["self", "rankings"] (defScope st_HouseD_initD) := ⟨rfl, rfl, rfl, by decide +kernel, rfl, by decide +kernel, by decide +kernel⟩
abbrev st_House_read : Stmt := inClass (topS 62) 1
abbrev names_House_read : List Str := ["cls", "text", "rows", "rankings", "part", "row"]
theorem sc_House_read : FnScope names_House_read ["cls", "text"] (defScope st_House_read) := ⟨rfl, rfl, rfl, by decide +kernel, rfl, by decide +kernel, by decide +kernel⟩
abbrev st_House_rankings : Stmt := inClass (topS 62) 2
abbrev st_House_things : Stmt := inClass (topS 62) 3
abbrev st_House_crest_masks : Stmt := inClass (topS 62) 4
abbrev st_House_table : Stmt := inClass (topS 62) 8
abbrev names_House_table : List Str := ["self", "firsts", "lines", "ranking", "thing", "masks"]
theorem sc_House_table : FnScope names_House_table ["self"] (defScope st_House_table) := ⟨rfl, rfl, rfl, by decide +kernel, rfl, by decide +kernel, by decide +kernel⟩
abbrev st_HouseD_lenD : Stmt := inClass (topS 62) 12
abbrev st_HouseD_strD : Stmt := inClass (topS 62) 13
abbrev st_HouseD_reprD : Stmt := inClass (topS 62) 14
abbrev st_l_purse : Stmt := topS 64
abbrev names_l_purse : List Str := ["_law_script", "_law_spot", "_law_cell", "_law_seed", "_law_one"]
theorem sc_l_purse : FnScope names_l_purse ["_law_script", "_law_spot"] (defScope st_l_purse) := ⟨rfl, rfl, rfl, by decide +kernel, rfl, by decide +kernel, by decide +kernel⟩
abbrev st_l_draw : Stmt := topS 65
abbrev names_l_draw : List Str := ["_law_purse_here", "_law_many", "_law_digit"]
theorem sc_l_draw : FnScope names_l_draw ["_law_purse_here", "_law_many"] (defScope st_l_draw) := ⟨rfl, rfl, rfl, by decide +kernel, rfl, by decide +kernel, by decide +kernel⟩
abbrev st_l_things : Stmt := topS 66
abbrev names_l_things : List Str := ["_law_purse_here", "_law_many", "_law_pool", "_law_found", "_law_turn"]
theorem sc_l_things : FnScope names_l_things ["_law_purse_here", "_law_many"] (defScope st_l_things) := ⟨rfl, rfl, rfl, by decide +kernel, rfl, by decide +kernel, by decide +kernel⟩
abbrev st_l_order : Stmt := topS 67
abbrev names_l_order : List Str := ["_law_purse_here", "_law_things_here", "_law_left", "_law_found", "_law_turn"]
theorem sc_l_order : FnScope names_l_order ["_law_purse_here", "_law_things_here"] (defScope st_l_order) := ⟨rfl, rfl, rfl, by decide +kernel, rfl, by decide +kernel, by decide +kernel⟩
abbrev st_l_near : Stmt := topS 68
abbrev names_l_near : List Str := ["_law_purse_here", "_law_row", "_law_found", "_law_turn", "_law_at"]
theorem sc_l_near : FnScope names_l_near ["_law_purse_here", "_law_row"] (defScope st_l_near) := ⟨rfl, rfl, rfl, by decide +kernel, rfl, by decide +kernel, by decide +kernel⟩
abbrev st_l_rows : Stmt := topS 69
abbrev names_l_rows : List Str := ["_law_purse_here", "_law_things_here", "_law_most", "_law_found", "_law_turn", "_law_way", "_law_last", "_law_row"]
theorem sc_l_rows : FnScope names_l_rows ["_law_purse_here", "_law_things_here", "_law_most"] (defScope st_l_rows) := ⟨rfl, rfl, rfl, by decide +kernel, rfl, by decide +kernel, by decide +kernel⟩
abbrev st_l_house : Stmt := topS 70
abbrev names_l_house : List Str := ["_law_rows_here", "_law_row"]
theorem sc_l_house : FnScope names_l_house ["_law_rows_here"] (defScope st_l_house) := ⟨rfl, rfl, rfl, by decide +kernel, rfl, by decide +kernel, by decide +kernel⟩
abbrev st_l_below : Stmt := topS 71
abbrev names_l_below : List Str := ["_law_row", "_law_thing"]
theorem sc_l_below : FnScope names_l_below ["_law_row", "_law_thing"] (defScope st_l_below) := ⟨rfl, rfl, rfl, by decide +kernel, rfl, by decide +kernel, by decide +kernel⟩
abbrev st_l_part : Stmt := topS 72
abbrev names_l_part : List Str := ["_law_one", "_law_other", "_law_thing"]
theorem sc_l_part : FnScope names_l_part ["_law_one", "_law_other"] (defScope st_l_part) := ⟨rfl, rfl, rfl, by decide +kernel, rfl, by decide +kernel, by decide +kernel⟩
abbrev st_l_crests : Stmt := topS 73
abbrev names_l_crests : List Str := ["_law_rows_here", "_law_found", "_law_thing", "_law_sets", "_law_high", "_law_k", "_law_crest", "_law_row", "_law_one", "_law_other"]
theorem sc_l_crests : FnScope names_l_crests ["_law_rows_here"] (defScope st_l_crests) := ⟨rfl, rfl, rfl, by decide +kernel, rfl, by decide +kernel, by decide +kernel⟩
abbrev st_l_line : Stmt := topS 74
abbrev names_l_line : List Str := ["_law_thing", "_law_rows_here", "_law_peaks", "_law_first", "_law_many", "_law_row", "_law_one"]
theorem sc_l_line : FnScope names_l_line ["_law_thing", "_law_rows_here", "_law_peaks"] (defScope st_l_line) := ⟨rfl, rfl, rfl, by decide +kernel, rfl, by decide +kernel, by decide +kernel⟩
abbrev st_l_right : Stmt := topS 75
abbrev names_l_right : List Str := ["_law_purse_here", "_law_turn", "_law_rows_here", "_law_house_here", "_law_peaks", "_law_due", "_law_thing"]
theorem sc_l_right : FnScope names_l_right ["_law_purse_here"] (defScope st_l_right) := ⟨rfl, rfl, rfl, by decide +kernel, rfl, by decide +kernel, by decide +kernel⟩
abbrev st_law : Stmt := topS 76
abbrev names_law : List Str := ["_law_script", "_law_spot"]
theorem sc_law : FnScope names_law ["_law_script"] (defScope st_law) := ⟨rfl, rfl, rfl, by decide +kernel, rfl, by decide +kernel, by decide +kernel⟩
structure Tx (K : PySem.W.Frag) (mg : Str → Option Value) where
  C : Addr
  cl : Cls K C
  g_Ranking : mg "Ranking" = some (.ref C)
  ne : PySem.W.findIn K (.ref C) "__ne__" = some (some (.builtin "object.__ne__"))
  ob : PySem.W.mroIn K C (.type "object") = some true
  ty : ∀ {H : Hp} {a dx : Addr} {fs : List (Str × V)}, H a = some (.ins C dx fs) → TyX K H (.ref a) (.ref C)
  nobool : PySem.W.findIn K (.ref C) "__bool__" = some none
  fm : PySem.W.findIn K (.ref C) "__format__" = some (some (.builtin "object.__format__"))
  crd : ClX.CRead K C (.type "type")
  cty : PySem.W.typeIn K (.ref C) = some (.type "type")
  no__row : NoAttr K C "_row"
  no__things : NoAttr K C "_things"
  no__rankings : NoAttr K C "_rankings"
  no__crest_masks : NoAttr K C "_crest_masks"
  C2 : Addr
  cl2 : Cls K C2
  g_House : mg "House" = some (.ref C2)
  ne2 : PySem.W.findIn K (.ref C2) "__ne__" = some (some (.builtin "object.__ne__"))
  ob2 : PySem.W.mroIn K C2 (.type "object") = some true
  ty2 : ∀ {H : Hp} {a dx : Addr} {fs : List (Str × V)}, H a = some (.ins C2 dx fs) → TyX K H (.ref a) (.ref C2)
  nobool2 : PySem.W.findIn K (.ref C2) "__bool__" = some none
  fm2 : PySem.W.findIn K (.ref C2) "__format__" = some (some (.builtin "object.__format__"))
  crd2 : ClX.CRead K C2 (.type "type")
  cty2 : PySem.W.typeIn K (.ref C2) = some (.type "type")
  no__row2 : NoAttr K C2 "_row"
  no__things2 : NoAttr K C2 "_things"
  no__rankings2 : NoAttr K C2 "_rankings"
  no__crest_masks2 : NoAttr K C2 "_crest_masks"
  a_is_name : Addr
  fd_is_name : FuncData
  F_is_name : Fun K "is_name" "is_name" st_is_name a_is_name fd_is_name
  b_is_name : Binds K fd_is_name ["value"] []
  g_is_name : mg "is_name" = some (.ref a_is_name)
  a_is_filled_tuple : Addr
  fd_is_filled_tuple : FuncData
  F_is_filled_tuple : Fun K "is_filled_tuple" "is_filled_tuple" st_is_filled_tuple a_is_filled_tuple fd_is_filled_tuple
  b_is_filled_tuple : Binds K fd_is_filled_tuple ["value"] []
  g_is_filled_tuple : mg "is_filled_tuple" = some (.ref a_is_filled_tuple)
  a_is_one_of : Addr
  fd_is_one_of : FuncData
  F_is_one_of : Fun K "is_one_of" "is_one_of" st_is_one_of a_is_one_of fd_is_one_of
  b_is_one_of : Binds K fd_is_one_of ["value", "things"] []
  g_is_one_of : mg "is_one_of" = some (.ref a_is_one_of)
  a_first_wrong_in_row : Addr
  fd_first_wrong_in_row : FuncData
  F_first_wrong_in_row : Fun K "first_wrong_in_row" "first_wrong_in_row" st_first_wrong_in_row a_first_wrong_in_row fd_first_wrong_in_row
  b_first_wrong_in_row : Binds K fd_first_wrong_in_row ["row"] []
  g_first_wrong_in_row : mg "first_wrong_in_row" = some (.ref a_first_wrong_in_row)
  a_check_row : Addr
  fd_check_row : FuncData
  F_check_row : Fun K "check_row" "check_row" st_check_row a_check_row fd_check_row
  b_check_row : Binds K fd_check_row ["row"] []
  g_check_row : mg "check_row" = some (.ref a_check_row)
  a_index_of : Addr
  fd_index_of : FuncData
  F_index_of : Fun K "index_of" "index_of" st_index_of a_index_of fd_index_of
  b_index_of : Binds K fd_index_of ["name", "names"] []
  g_index_of : mg "index_of" = some (.ref a_index_of)
  a_mask_of : Addr
  fd_mask_of : FuncData
  F_mask_of : Fun K "mask_of" "mask_of" st_mask_of a_mask_of fd_mask_of
  b_mask_of : Binds K fd_mask_of ["names", "things"] []
  g_mask_of : mg "mask_of" = some (.ref a_mask_of)
  a_below_masks : Addr
  fd_below_masks : FuncData
  F_below_masks : Fun K "below_masks" "below_masks" st_below_masks a_below_masks fd_below_masks
  b_below_masks : Binds K fd_below_masks ["row", "things"] []
  g_below_masks : mg "below_masks" = some (.ref a_below_masks)
  a_is_covered : Addr
  fd_is_covered : FuncData
  F_is_covered : Fun K "is_covered" "is_covered" st_is_covered a_is_covered fd_is_covered
  b_is_covered : Binds K fd_is_covered ["mask", "masks"] []
  g_is_covered : mg "is_covered" = some (.ref a_is_covered)
  a_greatest : Addr
  fd_greatest : FuncData
  F_greatest : Fun K "greatest" "greatest" st_greatest a_greatest fd_greatest
  b_greatest : Binds K fd_greatest ["masks"] []
  g_greatest : mg "greatest" = some (.ref a_greatest)
  a_RankingD_initD : Addr
  fd_RankingD_initD : FuncData
  F_RankingD_initD : Fun K "__init__" "Ranking.__init__" st_RankingD_initD a_RankingD_initD fd_RankingD_initD
  b_RankingD_initD : Binds K fd_RankingD_initD ["self", "row"] []
  mkc : Mk K C a_RankingD_initD
  q_Ranking_row : Addr
  a_Ranking_row : Addr
  fd_Ranking_row : FuncData
  F_Ranking_row : Fun K "row" "Ranking.row" st_Ranking_row a_Ranking_row fd_Ranking_row
  b_Ranking_row : Binds K fd_Ranking_row ["self"] []
  p_row : PropOf K C "row" q_Ranking_row a_Ranking_row
  q_Ranking_things : Addr
  a_Ranking_things : Addr
  fd_Ranking_things : FuncData
  F_Ranking_things : Fun K "things" "Ranking.things" st_Ranking_things a_Ranking_things fd_Ranking_things
  b_Ranking_things : Binds K fd_Ranking_things ["self"] []
  p_things : PropOf K C "things" q_Ranking_things a_Ranking_things
  a_RankingD_strD : Addr
  fd_RankingD_strD : FuncData
  F_RankingD_strD : Fun K "__str__" "Ranking.__str__" st_RankingD_strD a_RankingD_strD fd_RankingD_strD
  b_RankingD_strD : Binds K fd_RankingD_strD ["self"] []
  m_RankingD_strD : Meth K C "__str__" a_RankingD_strD
  a_check_house : Addr
  fd_check_house : FuncData
  F_check_house : Fun K "check_house" "check_house" st_check_house a_check_house fd_check_house
  b_check_house : Binds K fd_check_house ["house"] []
  g_check_house : mg "check_house" = some (.ref a_check_house)
  a_check_rankings : Addr
  fd_check_rankings : FuncData
  F_check_rankings : Fun K "check_rankings" "check_rankings" st_check_rankings a_check_rankings fd_check_rankings
  b_check_rankings : Binds K fd_check_rankings ["rankings"] []
  g_check_rankings : mg "check_rankings" = some (.ref a_check_rankings)
  a_are_rows_of_a_house : Addr
  fd_are_rows_of_a_house : FuncData
  F_are_rows_of_a_house : Fun K "are_rows_of_a_house" "are_rows_of_a_house" st_are_rows_of_a_house a_are_rows_of_a_house fd_are_rows_of_a_house
  b_are_rows_of_a_house : Binds K fd_are_rows_of_a_house ["rows"] []
  g_are_rows_of_a_house : mg "are_rows_of_a_house" = some (.ref a_are_rows_of_a_house)
  a_HouseD_initD : Addr
  fd_HouseD_initD : FuncData
  F_HouseD_initD : Fun K "__init__" "House.__init__" st_HouseD_initD a_HouseD_initD fd_HouseD_initD
  bv_HouseD_initD : ∀ (u : Value) (rest : List Value), rest.length ≤ 60 → bindArgs fd_HouseD_initD ⟨u :: rest, []⟩ = (newTuple rest >>= fun t => pure [(("self" : Str), u), (("rankings" : Str), t)])
  mkc2 : Mk K C2 a_HouseD_initD
  q_House_read : Addr
  a_House_read : Addr
  fd_House_read : FuncData
  F_House_read : Fun K "read" "House.read" st_House_read a_House_read fd_House_read
  b_House_read : Binds K fd_House_read ["cls", "text"] []
  cm_House_read : ClX.CMet K C2 (.type "type") "read" q_House_read a_House_read
  q_House_rankings : Addr
  a_House_rankings : Addr
  fd_House_rankings : FuncData
  F_House_rankings : Fun K "rankings" "House.rankings" st_House_rankings a_House_rankings fd_House_rankings
  b_House_rankings : Binds K fd_House_rankings ["self"] []
  p2_rankings : PropOf K C2 "rankings" q_House_rankings a_House_rankings
  q_House_things : Addr
  a_House_things : Addr
  fd_House_things : FuncData
  F_House_things : Fun K "things" "House.things" st_House_things a_House_things fd_House_things
  b_House_things : Binds K fd_House_things ["self"] []
  p2_things : PropOf K C2 "things" q_House_things a_House_things
  q_House_crest_masks : Addr
  a_House_crest_masks : Addr
  fd_House_crest_masks : FuncData
  F_House_crest_masks : Fun K "crest_masks" "House.crest_masks" st_House_crest_masks a_House_crest_masks fd_House_crest_masks
  b_House_crest_masks : Binds K fd_House_crest_masks ["self"] []
  p2_crest_masks : PropOf K C2 "crest_masks" q_House_crest_masks a_House_crest_masks
  a_House_table : Addr
  fd_House_table : FuncData
  F_House_table : Fun K "table" "House.table" st_House_table a_House_table fd_House_table
  b_House_table : Binds K fd_House_table ["self"] []
  m_House_table : Meth K C2 "table" a_House_table
  a_HouseD_lenD : Addr
  fd_HouseD_lenD : FuncData
  F_HouseD_lenD : Fun K "__len__" "House.__len__" st_HouseD_lenD a_HouseD_lenD fd_HouseD_lenD
  b_HouseD_lenD : Binds K fd_HouseD_lenD ["self"] []
  m_HouseD_lenD : Meth K C2 "__len__" a_HouseD_lenD
  a_HouseD_strD : Addr
  fd_HouseD_strD : FuncData
  F_HouseD_strD : Fun K "__str__" "House.__str__" st_HouseD_strD a_HouseD_strD fd_HouseD_strD
  b_HouseD_strD : Binds K fd_HouseD_strD ["self"] []
  m_HouseD_strD : Meth K C2 "__str__" a_HouseD_strD
  a_HouseD_reprD : Addr
  fd_HouseD_reprD : FuncData
  F_HouseD_reprD : Fun K "__repr__" "House.__repr__" st_HouseD_reprD a_HouseD_reprD fd_HouseD_reprD
  b_HouseD_reprD : Binds K fd_HouseD_reprD ["self"] []
  m_HouseD_reprD : Meth K C2 "__repr__" a_HouseD_reprD
  a_l_purse : Addr
  fd_l_purse : FuncData
  F_l_purse : Fun K "_law_purse" "_law_purse" st_l_purse a_l_purse fd_l_purse
  b_l_purse : Binds K fd_l_purse ["_law_script", "_law_spot"] []
  g_l_purse : mg "_law_purse" = some (.ref a_l_purse)
  a_l_draw : Addr
  fd_l_draw : FuncData
  F_l_draw : Fun K "_law_draw" "_law_draw" st_l_draw a_l_draw fd_l_draw
  b_l_draw : Binds K fd_l_draw ["_law_purse_here", "_law_many"] []
  g_l_draw : mg "_law_draw" = some (.ref a_l_draw)
  a_l_things : Addr
  fd_l_things : FuncData
  F_l_things : Fun K "_law_things" "_law_things" st_l_things a_l_things fd_l_things
  b_l_things : Binds K fd_l_things ["_law_purse_here", "_law_many"] []
  g_l_things : mg "_law_things" = some (.ref a_l_things)
  a_l_order : Addr
  fd_l_order : FuncData
  F_l_order : Fun K "_law_order" "_law_order" st_l_order a_l_order fd_l_order
  b_l_order : Binds K fd_l_order ["_law_purse_here", "_law_things_here"] []
  g_l_order : mg "_law_order" = some (.ref a_l_order)
  a_l_near : Addr
  fd_l_near : FuncData
  F_l_near : Fun K "_law_near" "_law_near" st_l_near a_l_near fd_l_near
  b_l_near : Binds K fd_l_near ["_law_purse_here", "_law_row"] []
  g_l_near : mg "_law_near" = some (.ref a_l_near)
  a_l_rows : Addr
  fd_l_rows : FuncData
  F_l_rows : Fun K "_law_rows" "_law_rows" st_l_rows a_l_rows fd_l_rows
  b_l_rows : Binds K fd_l_rows ["_law_purse_here", "_law_things_here", "_law_most"] []
  g_l_rows : mg "_law_rows" = some (.ref a_l_rows)
  a_l_house : Addr
  fd_l_house : FuncData
  F_l_house : Fun K "_law_house" "_law_house" st_l_house a_l_house fd_l_house
  b_l_house : Binds K fd_l_house ["_law_rows_here"] []
  g_l_house : mg "_law_house" = some (.ref a_l_house)
  a_l_below : Addr
  fd_l_below : FuncData
  F_l_below : Fun K "_law_below" "_law_below" st_l_below a_l_below fd_l_below
  b_l_below : Binds K fd_l_below ["_law_row", "_law_thing"] []
  g_l_below : mg "_law_below" = some (.ref a_l_below)
  a_l_part : Addr
  fd_l_part : FuncData
  F_l_part : Fun K "_law_part" "_law_part" st_l_part a_l_part fd_l_part
  b_l_part : Binds K fd_l_part ["_law_one", "_law_other"] []
  g_l_part : mg "_law_part" = some (.ref a_l_part)
  a_l_crests : Addr
  fd_l_crests : FuncData
  F_l_crests : Fun K "_law_crests" "_law_crests" st_l_crests a_l_crests fd_l_crests
  b_l_crests : Binds K fd_l_crests ["_law_rows_here"] []
  g_l_crests : mg "_law_crests" = some (.ref a_l_crests)
  a_l_line : Addr
  fd_l_line : FuncData
  F_l_line : Fun K "_law_line" "_law_line" st_l_line a_l_line fd_l_line
  b_l_line : Binds K fd_l_line ["_law_thing", "_law_rows_here", "_law_peaks"] []
  g_l_line : mg "_law_line" = some (.ref a_l_line)
  a_l_right : Addr
  fd_l_right : FuncData
  F_l_right : Fun K "_law_right" "_law_right" st_l_right a_l_right fd_l_right
  b_l_right : Binds K fd_l_right ["_law_purse_here"] []
  g_l_right : mg "_law_right" = some (.ref a_l_right)
  a_law : Addr
  fd_law : FuncData
  F_law : Fun K "law" "law" st_law a_law fd_law
  b_law : Binds K fd_law ["_law_script"] []
  g_law : mg "law" = some (.ref a_law)
  g_MOST_THINGS : ∃ t : Tok, mg "MOST_THINGS" = some (.int 10 t)
  g_MOST_PEOPLE : ∃ t : Tok, mg "MOST_PEOPLE" = some (.int 24 t)
  g_LETTERS : ∃ t : Tok, mg "LETTERS" = some (.str "abcdefghijklmnopqrstuvwxyz" t)
  g_DIGITS : ∃ t : Tok, mg "DIGITS" = some (.str "0123456789" t)
  g_LONGEST_NAME : ∃ t : Tok, mg "LONGEST_NAME" = some (.int 8 t)
  n_len : mg "len" = none
  n_isinstance : mg "isinstance" = none
  n_all : mg "all" = none
  n_enumerate : mg "enumerate" = none
  n_tuple : mg "tuple" = none
  n_sorted : mg "sorted" = none
  n_abs : mg "abs" = none
  n_int : mg "int" = none
  n_divmod : mg "divmod" = none
  n_range : mg "range" = none
  n_list : mg "list" = none
  n_max : mg "max" = none
  n_min : mg "min" = none
  n_str : mg "str" = none
  n_bool : mg "bool" = none
  n_repr : mg "repr" = none
  n_zip : mg "zip" = none
theorem tx_of {K : PySem.W.Frag} {h : Heap} {mg : Str → Option Value} {fa : Addr} (X : K.In h) (G : h.Ns mainGlobals mg) (hfa : mg "law" = some (.ref fa))
    {C_Ranking : Addr}
    {C_House : Addr}
    {f_is_name : Addr} {od_is_name an_is_name : Option Addr} {sl_is_name : Array (Option Value)} {oc_is_name kV_is_name dc_is_name pm_is_name cd_is_name ct_is_name : Value}
    {f_is_filled_tuple : Addr} {od_is_filled_tuple an_is_filled_tuple : Option Addr} {sl_is_filled_tuple : Array (Option Value)} {oc_is_filled_tuple kV_is_filled_tuple dc_is_filled_tuple pm_is_filled_tuple cd_is_filled_tuple ct_is_filled_tuple : Value}
    {f_is_one_of : Addr} {od_is_one_of an_is_one_of : Option Addr} {sl_is_one_of : Array (Option Value)} {oc_is_one_of kV_is_one_of dc_is_one_of pm_is_one_of cd_is_one_of ct_is_one_of : Value}
    {f_first_wrong_in_row : Addr} {od_first_wrong_in_row an_first_wrong_in_row : Option Addr} {sl_first_wrong_in_row : Array (Option Value)} {oc_first_wrong_in_row kV_first_wrong_in_row dc_first_wrong_in_row pm_first_wrong_in_row cd_first_wrong_in_row ct_first_wrong_in_row : Value}
    {f_check_row : Addr} {od_check_row an_check_row : Option Addr} {sl_check_row : Array (Option Value)} {oc_check_row kV_check_row dc_check_row pm_check_row cd_check_row ct_check_row : Value}
    {f_index_of : Addr} {od_index_of an_index_of : Option Addr} {sl_index_of : Array (Option Value)} {oc_index_of kV_index_of dc_index_of pm_index_of cd_index_of ct_index_of : Value}
    {f_mask_of : Addr} {od_mask_of an_mask_of : Option Addr} {sl_mask_of : Array (Option Value)} {oc_mask_of kV_mask_of dc_mask_of pm_mask_of cd_mask_of ct_mask_of : Value}
    {f_below_masks : Addr} {od_below_masks an_below_masks : Option Addr} {sl_below_masks : Array (Option Value)} {oc_below_masks kV_below_masks dc_below_masks pm_below_masks cd_below_masks ct_below_masks : Value}
    {f_is_covered : Addr} {od_is_covered an_is_covered : Option Addr} {sl_is_covered : Array (Option Value)} {oc_is_covered kV_is_covered dc_is_covered pm_is_covered cd_is_covered ct_is_covered : Value}
    {f_greatest : Addr} {od_greatest an_greatest : Option Addr} {sl_greatest : Array (Option Value)} {oc_greatest kV_greatest dc_greatest pm_greatest cd_greatest ct_greatest : Value}
    {f_RankingD_initD : Addr} {od_RankingD_initD an_RankingD_initD : Option Addr} {sl_RankingD_initD : Array (Option Value)} {oc_RankingD_initD kV_RankingD_initD dc_RankingD_initD pm_RankingD_initD cd_RankingD_initD ct_RankingD_initD : Value}
    {f_Ranking_row : Addr} {od_Ranking_row an_Ranking_row : Option Addr} {sl_Ranking_row : Array (Option Value)} {oc_Ranking_row kV_Ranking_row dc_Ranking_row pm_Ranking_row cd_Ranking_row ct_Ranking_row : Value}
    {q_Ranking_row : Addr} {rest_Ranking_row : List Value}
    {f_Ranking_things : Addr} {od_Ranking_things an_Ranking_things : Option Addr} {sl_Ranking_things : Array (Option Value)} {oc_Ranking_things kV_Ranking_things dc_Ranking_things pm_Ranking_things cd_Ranking_things ct_Ranking_things : Value}
    {q_Ranking_things : Addr} {rest_Ranking_things : List Value}
    {f_RankingD_strD : Addr} {od_RankingD_strD an_RankingD_strD : Option Addr} {sl_RankingD_strD : Array (Option Value)} {oc_RankingD_strD kV_RankingD_strD dc_RankingD_strD pm_RankingD_strD cd_RankingD_strD ct_RankingD_strD : Value}
    {f_check_house : Addr} {od_check_house an_check_house : Option Addr} {sl_check_house : Array (Option Value)} {oc_check_house kV_check_house dc_check_house pm_check_house cd_check_house ct_check_house : Value}
    {f_check_rankings : Addr} {od_check_rankings an_check_rankings : Option Addr} {sl_check_rankings : Array (Option Value)} {oc_check_rankings kV_check_rankings dc_check_rankings pm_check_rankings cd_check_rankings ct_check_rankings : Value}
    {f_are_rows_of_a_house : Addr} {od_are_rows_of_a_house an_are_rows_of_a_house : Option Addr} {sl_are_rows_of_a_house : Array (Option Value)} {oc_are_rows_of_a_house kV_are_rows_of_a_house dc_are_rows_of_a_house pm_are_rows_of_a_house cd_are_rows_of_a_house ct_are_rows_of_a_house : Value}
    {f_HouseD_initD : Addr} {od_HouseD_initD an_HouseD_initD : Option Addr} {sl_HouseD_initD : Array (Option Value)} {oc_HouseD_initD kV_HouseD_initD dc_HouseD_initD pm_HouseD_initD cd_HouseD_initD ct_HouseD_initD : Value}
    {f_House_read : Addr} {od_House_read an_House_read : Option Addr} {sl_House_read : Array (Option Value)} {oc_House_read kV_House_read dc_House_read pm_House_read cd_House_read ct_House_read : Value}
    {q_House_read : Addr} {rest_House_read : List Value}
    {f_House_rankings : Addr} {od_House_rankings an_House_rankings : Option Addr} {sl_House_rankings : Array (Option Value)} {oc_House_rankings kV_House_rankings dc_House_rankings pm_House_rankings cd_House_rankings ct_House_rankings : Value}
    {q_House_rankings : Addr} {rest_House_rankings : List Value}
    {f_House_things : Addr} {od_House_things an_House_things : Option Addr} {sl_House_things : Array (Option Value)} {oc_House_things kV_House_things dc_House_things pm_House_things cd_House_things ct_House_things : Value}
    {q_House_things : Addr} {rest_House_things : List Value}
    {f_House_crest_masks : Addr} {od_House_crest_masks an_House_crest_masks : Option Addr} {sl_House_crest_masks : Array (Option Value)} {oc_House_crest_masks kV_House_crest_masks dc_House_crest_masks pm_House_crest_masks cd_House_crest_masks ct_House_crest_masks : Value}
    {q_House_crest_masks : Addr} {rest_House_crest_masks : List Value}
    {f_House_table : Addr} {od_House_table an_House_table : Option Addr} {sl_House_table : Array (Option Value)} {oc_House_table kV_House_table dc_House_table pm_House_table cd_House_table ct_House_table : Value}
    {f_HouseD_lenD : Addr} {od_HouseD_lenD an_HouseD_lenD : Option Addr} {sl_HouseD_lenD : Array (Option Value)} {oc_HouseD_lenD kV_HouseD_lenD dc_HouseD_lenD pm_HouseD_lenD cd_HouseD_lenD ct_HouseD_lenD : Value}
    {f_HouseD_strD : Addr} {od_HouseD_strD an_HouseD_strD : Option Addr} {sl_HouseD_strD : Array (Option Value)} {oc_HouseD_strD kV_HouseD_strD dc_HouseD_strD pm_HouseD_strD cd_HouseD_strD ct_HouseD_strD : Value}
    {f_HouseD_reprD : Addr} {od_HouseD_reprD an_HouseD_reprD : Option Addr} {sl_HouseD_reprD : Array (Option Value)} {oc_HouseD_reprD kV_HouseD_reprD dc_HouseD_reprD pm_HouseD_reprD cd_HouseD_reprD ct_HouseD_reprD : Value}
    {f_l_purse : Addr} {od_l_purse an_l_purse : Option Addr} {sl_l_purse : Array (Option Value)} {oc_l_purse kV_l_purse dc_l_purse pm_l_purse cd_l_purse ct_l_purse : Value}
    {f_l_draw : Addr} {od_l_draw an_l_draw : Option Addr} {sl_l_draw : Array (Option Value)} {oc_l_draw kV_l_draw dc_l_draw pm_l_draw cd_l_draw ct_l_draw : Value}
    {f_l_things : Addr} {od_l_things an_l_things : Option Addr} {sl_l_things : Array (Option Value)} {oc_l_things kV_l_things dc_l_things pm_l_things cd_l_things ct_l_things : Value}
    {f_l_order : Addr} {od_l_order an_l_order : Option Addr} {sl_l_order : Array (Option Value)} {oc_l_order kV_l_order dc_l_order pm_l_order cd_l_order ct_l_order : Value}
    {f_l_near : Addr} {od_l_near an_l_near : Option Addr} {sl_l_near : Array (Option Value)} {oc_l_near kV_l_near dc_l_near pm_l_near cd_l_near ct_l_near : Value}
    {f_l_rows : Addr} {od_l_rows an_l_rows : Option Addr} {sl_l_rows : Array (Option Value)} {oc_l_rows kV_l_rows dc_l_rows pm_l_rows cd_l_rows ct_l_rows : Value}
    {f_l_house : Addr} {od_l_house an_l_house : Option Addr} {sl_l_house : Array (Option Value)} {oc_l_house kV_l_house dc_l_house pm_l_house cd_l_house ct_l_house : Value}
    {f_l_below : Addr} {od_l_below an_l_below : Option Addr} {sl_l_below : Array (Option Value)} {oc_l_below kV_l_below dc_l_below pm_l_below cd_l_below ct_l_below : Value}
    {f_l_part : Addr} {od_l_part an_l_part : Option Addr} {sl_l_part : Array (Option Value)} {oc_l_part kV_l_part dc_l_part pm_l_part cd_l_part ct_l_part : Value}
    {f_l_crests : Addr} {od_l_crests an_l_crests : Option Addr} {sl_l_crests : Array (Option Value)} {oc_l_crests kV_l_crests dc_l_crests pm_l_crests cd_l_crests ct_l_crests : Value}
    {f_l_line : Addr} {od_l_line an_l_line : Option Addr} {sl_l_line : Array (Option Value)} {oc_l_line kV_l_line dc_l_line pm_l_line cd_l_line ct_l_line : Value}
    {f_l_right : Addr} {od_l_right an_l_right : Option Addr} {sl_l_right : Array (Option Value)} {oc_l_right kV_l_right dc_l_right pm_l_right cd_l_right ct_l_right : Value}
    {f_law : Addr} {od_law an_law : Option Addr} {sl_law : Array (Option Value)} {oc_law kV_law dc_law pm_law cd_law ct_law : Value}
    {t_MOST_THINGS : Tok}
    {t_MOST_PEOPLE : Tok}
    {t_LETTERS : Tok}
    {t_DIGITS : Tok}
    {t_LONGEST_NAME : Tok}
    (cg_Ranking : PySem.W.nsIn K mainGlobals "Ranking" = some (some (.ref C_Ranking)))
    (cp_Ranking : PySem.W.plainGet K C_Ranking Str.empty = true)
    (ch_Ranking : PySem.W.hasDictIn K C_Ranking = true)
    (co_Ranking : PySem.W.plainOver K C_Ranking = true)
    (cs_Ranking : PySem.W.findIn K (.ref C_Ranking) "__setattr__" = some (some (.builtin "object.__setattr__")))
    (cm_Ranking : PySem.W.makesIn K C_Ranking = true)
    (ck_Ranking : PySem.W.keepIn K (.ref C_Ranking) = true)
    (cne_Ranking : PySem.W.findIn K (.ref C_Ranking) "__ne__" = some (some (.builtin "object.__ne__")))
    (cob_Ranking : PySem.W.mroIn K C_Ranking (.type "object") = some true)
    (cca_Ranking : PySem.W.findIn K (.ref C_Ranking) "__class__" = some (some (.builtin "object.__class__")))
    (ccb_Ranking : PySem.W.specialIn K (.builtin "object.__class__") "__get__" = some (some (.builtin "getset_descriptor.__get__")))
    (ccc_Ranking : PySem.W.takesIn K (.builtin "object.__class__") = some true)
    (cbo_Ranking : PySem.W.findIn K (.ref C_Ranking) "__bool__" = some none)
    (cfm_Ranking : PySem.W.findIn K (.ref C_Ranking) "__format__" = some (some (.builtin "object.__format__")))
    (crd_Ranking : PySem.W.readsIn K C_Ranking (.type "type") = true)
    (cty_Ranking : PySem.W.typeIn K (.ref C_Ranking) = some (.type "type"))
    (cga_Ranking : PySem.W.specialIn K (.ref C_Ranking) "__getattribute__" = some (some (.builtin "type.__getattribute__")))
    (cn_Ranking__row : PySem.W.findIn K (.ref C_Ranking) "_row" = some none)
    (cn_Ranking__things : PySem.W.findIn K (.ref C_Ranking) "_things" = some none)
    (cn_Ranking__rankings : PySem.W.findIn K (.ref C_Ranking) "_rankings" = some none)
    (cn_Ranking__crest_masks : PySem.W.findIn K (.ref C_Ranking) "_crest_masks" = some none)
    (cg_House : PySem.W.nsIn K mainGlobals "House" = some (some (.ref C_House)))
    (cp_House : PySem.W.plainGet K C_House Str.empty = true)
    (ch_House : PySem.W.hasDictIn K C_House = true)
    (co_House : PySem.W.plainOver K C_House = true)
    (cs_House : PySem.W.findIn K (.ref C_House) "__setattr__" = some (some (.builtin "object.__setattr__")))
    (cm_House : PySem.W.makesIn K C_House = true)
    (ck_House : PySem.W.keepIn K (.ref C_House) = true)
    (cne_House : PySem.W.findIn K (.ref C_House) "__ne__" = some (some (.builtin "object.__ne__")))
    (cob_House : PySem.W.mroIn K C_House (.type "object") = some true)
    (cca_House : PySem.W.findIn K (.ref C_House) "__class__" = some (some (.builtin "object.__class__")))
    (ccb_House : PySem.W.specialIn K (.builtin "object.__class__") "__get__" = some (some (.builtin "getset_descriptor.__get__")))
    (ccc_House : PySem.W.takesIn K (.builtin "object.__class__") = some true)
    (cbo_House : PySem.W.findIn K (.ref C_House) "__bool__" = some none)
    (cfm_House : PySem.W.findIn K (.ref C_House) "__format__" = some (some (.builtin "object.__format__")))
    (crd_House : PySem.W.readsIn K C_House (.type "type") = true)
    (cty_House : PySem.W.typeIn K (.ref C_House) = some (.type "type"))
    (cga_House : PySem.W.specialIn K (.ref C_House) "__getattribute__" = some (some (.builtin "type.__getattribute__")))
    (cn_House__row : PySem.W.findIn K (.ref C_House) "_row" = some none)
    (cn_House__things : PySem.W.findIn K (.ref C_House) "_things" = some none)
    (cn_House__rankings : PySem.W.findIn K (.ref C_House) "_rankings" = some none)
    (cn_House__crest_masks : PySem.W.findIn K (.ref C_House) "_crest_masks" = some none)
    (a_is_name : PySem.W.nsIn K mainGlobals "is_name" = some (some (.ref f_is_name)))
    (l_is_name : K.lookup f_is_name = some ⟨oc_is_name, od_is_name, .func (PySem.W.fnOf "is_name" "is_name" (defArgs st_is_name) (defBody st_is_name) (defScope st_is_name) .none kV_is_name dc_is_name pm_is_name an_is_name cd_is_name ct_is_name), sl_is_name⟩)
    (c_is_name : PySem.W.codeIn K cd_is_name "is_name" = true)
    (k_is_name : PySem.W.keepIn K (.ref f_is_name) = true)
    (a_is_filled_tuple : PySem.W.nsIn K mainGlobals "is_filled_tuple" = some (some (.ref f_is_filled_tuple)))
    (l_is_filled_tuple : K.lookup f_is_filled_tuple = some ⟨oc_is_filled_tuple, od_is_filled_tuple, .func (PySem.W.fnOf "is_filled_tuple" "is_filled_tuple" (defArgs st_is_filled_tuple) (defBody st_is_filled_tuple) (defScope st_is_filled_tuple) .none kV_is_filled_tuple dc_is_filled_tuple pm_is_filled_tuple an_is_filled_tuple cd_is_filled_tuple ct_is_filled_tuple), sl_is_filled_tuple⟩)
    (c_is_filled_tuple : PySem.W.codeIn K cd_is_filled_tuple "is_filled_tuple" = true)
    (k_is_filled_tuple : PySem.W.keepIn K (.ref f_is_filled_tuple) = true)
    (a_is_one_of : PySem.W.nsIn K mainGlobals "is_one_of" = some (some (.ref f_is_one_of)))
    (l_is_one_of : K.lookup f_is_one_of = some ⟨oc_is_one_of, od_is_one_of, .func (PySem.W.fnOf "is_one_of" "is_one_of" (defArgs st_is_one_of) (defBody st_is_one_of) (defScope st_is_one_of) .none kV_is_one_of dc_is_one_of pm_is_one_of an_is_one_of cd_is_one_of ct_is_one_of), sl_is_one_of⟩)
    (c_is_one_of : PySem.W.codeIn K cd_is_one_of "is_one_of" = true)
    (k_is_one_of : PySem.W.keepIn K (.ref f_is_one_of) = true)
    (a_first_wrong_in_row : PySem.W.nsIn K mainGlobals "first_wrong_in_row" = some (some (.ref f_first_wrong_in_row)))
    (l_first_wrong_in_row : K.lookup f_first_wrong_in_row = some ⟨oc_first_wrong_in_row, od_first_wrong_in_row, .func (PySem.W.fnOf "first_wrong_in_row" "first_wrong_in_row" (defArgs st_first_wrong_in_row) (defBody st_first_wrong_in_row) (defScope st_first_wrong_in_row) .none kV_first_wrong_in_row dc_first_wrong_in_row pm_first_wrong_in_row an_first_wrong_in_row cd_first_wrong_in_row ct_first_wrong_in_row), sl_first_wrong_in_row⟩)
    (c_first_wrong_in_row : PySem.W.codeIn K cd_first_wrong_in_row "first_wrong_in_row" = true)
    (k_first_wrong_in_row : PySem.W.keepIn K (.ref f_first_wrong_in_row) = true)
    (a_check_row : PySem.W.nsIn K mainGlobals "check_row" = some (some (.ref f_check_row)))
    (l_check_row : K.lookup f_check_row = some ⟨oc_check_row, od_check_row, .func (PySem.W.fnOf "check_row" "check_row" (defArgs st_check_row) (defBody st_check_row) (defScope st_check_row) .none kV_check_row dc_check_row pm_check_row an_check_row cd_check_row ct_check_row), sl_check_row⟩)
    (c_check_row : PySem.W.codeIn K cd_check_row "check_row" = true)
    (k_check_row : PySem.W.keepIn K (.ref f_check_row) = true)
    (a_index_of : PySem.W.nsIn K mainGlobals "index_of" = some (some (.ref f_index_of)))
    (l_index_of : K.lookup f_index_of = some ⟨oc_index_of, od_index_of, .func (PySem.W.fnOf "index_of" "index_of" (defArgs st_index_of) (defBody st_index_of) (defScope st_index_of) .none kV_index_of dc_index_of pm_index_of an_index_of cd_index_of ct_index_of), sl_index_of⟩)
    (c_index_of : PySem.W.codeIn K cd_index_of "index_of" = true)
    (k_index_of : PySem.W.keepIn K (.ref f_index_of) = true)
    (a_mask_of : PySem.W.nsIn K mainGlobals "mask_of" = some (some (.ref f_mask_of)))
    (l_mask_of : K.lookup f_mask_of = some ⟨oc_mask_of, od_mask_of, .func (PySem.W.fnOf "mask_of" "mask_of" (defArgs st_mask_of) (defBody st_mask_of) (defScope st_mask_of) .none kV_mask_of dc_mask_of pm_mask_of an_mask_of cd_mask_of ct_mask_of), sl_mask_of⟩)
    (c_mask_of : PySem.W.codeIn K cd_mask_of "mask_of" = true)
    (k_mask_of : PySem.W.keepIn K (.ref f_mask_of) = true)
    (a_below_masks : PySem.W.nsIn K mainGlobals "below_masks" = some (some (.ref f_below_masks)))
    (l_below_masks : K.lookup f_below_masks = some ⟨oc_below_masks, od_below_masks, .func (PySem.W.fnOf "below_masks" "below_masks" (defArgs st_below_masks) (defBody st_below_masks) (defScope st_below_masks) .none kV_below_masks dc_below_masks pm_below_masks an_below_masks cd_below_masks ct_below_masks), sl_below_masks⟩)
    (c_below_masks : PySem.W.codeIn K cd_below_masks "below_masks" = true)
    (k_below_masks : PySem.W.keepIn K (.ref f_below_masks) = true)
    (a_is_covered : PySem.W.nsIn K mainGlobals "is_covered" = some (some (.ref f_is_covered)))
    (l_is_covered : K.lookup f_is_covered = some ⟨oc_is_covered, od_is_covered, .func (PySem.W.fnOf "is_covered" "is_covered" (defArgs st_is_covered) (defBody st_is_covered) (defScope st_is_covered) .none kV_is_covered dc_is_covered pm_is_covered an_is_covered cd_is_covered ct_is_covered), sl_is_covered⟩)
    (c_is_covered : PySem.W.codeIn K cd_is_covered "is_covered" = true)
    (k_is_covered : PySem.W.keepIn K (.ref f_is_covered) = true)
    (a_greatest : PySem.W.nsIn K mainGlobals "greatest" = some (some (.ref f_greatest)))
    (l_greatest : K.lookup f_greatest = some ⟨oc_greatest, od_greatest, .func (PySem.W.fnOf "greatest" "greatest" (defArgs st_greatest) (defBody st_greatest) (defScope st_greatest) .none kV_greatest dc_greatest pm_greatest an_greatest cd_greatest ct_greatest), sl_greatest⟩)
    (c_greatest : PySem.W.codeIn K cd_greatest "greatest" = true)
    (k_greatest : PySem.W.keepIn K (.ref f_greatest) = true)
    (a_RankingD_initD : PySem.W.findIn K (.ref C_Ranking) "__init__" = some (some (.ref f_RankingD_initD)))
    (i_RankingD_initD : PySem.W.isFn K (.ref f_RankingD_initD) = true)
    (l_RankingD_initD : K.lookup f_RankingD_initD = some ⟨oc_RankingD_initD, od_RankingD_initD, .func (PySem.W.fnOf "__init__" "Ranking.__init__" (defArgs st_RankingD_initD) (defBody st_RankingD_initD) (defScope st_RankingD_initD) .none kV_RankingD_initD dc_RankingD_initD pm_RankingD_initD an_RankingD_initD cd_RankingD_initD ct_RankingD_initD), sl_RankingD_initD⟩)
    (c_RankingD_initD : PySem.W.codeIn K cd_RankingD_initD "Ranking.__init__" = true)
    (k_RankingD_initD : PySem.W.keepIn K (.ref f_RankingD_initD) = true)
    (a_Ranking_row : PySem.W.findIn K (.ref C_Ranking) "row" = some (some (.ref q_Ranking_row)))
    (pg_Ranking_row : PySem.W.specialIn K (.ref q_Ranking_row) "__get__" = some (some (.builtin "property.__get__")))
    (pt_Ranking_row : PySem.W.takesIn K (.ref q_Ranking_row) = some true)
    (pr_Ranking_row : PySem.W.recIn K q_Ranking_row "property" = some (.ref f_Ranking_row :: rest_Ranking_row))
    (l_Ranking_row : K.lookup f_Ranking_row = some ⟨oc_Ranking_row, od_Ranking_row, .func (PySem.W.fnOf "row" "Ranking.row" (defArgs st_Ranking_row) (defBody st_Ranking_row) (defScope st_Ranking_row) .none kV_Ranking_row dc_Ranking_row pm_Ranking_row an_Ranking_row cd_Ranking_row ct_Ranking_row), sl_Ranking_row⟩)
    (c_Ranking_row : PySem.W.codeIn K cd_Ranking_row "Ranking.row" = true)
    (k_Ranking_row : PySem.W.keepIn K (.ref f_Ranking_row) = true)
    (a_Ranking_things : PySem.W.findIn K (.ref C_Ranking) "things" = some (some (.ref q_Ranking_things)))
    (pg_Ranking_things : PySem.W.specialIn K (.ref q_Ranking_things) "__get__" = some (some (.builtin "property.__get__")))
    (pt_Ranking_things : PySem.W.takesIn K (.ref q_Ranking_things) = some true)
    (pr_Ranking_things : PySem.W.recIn K q_Ranking_things "property" = some (.ref f_Ranking_things :: rest_Ranking_things))
    (l_Ranking_things : K.lookup f_Ranking_things = some ⟨oc_Ranking_things, od_Ranking_things, .func (PySem.W.fnOf "things" "Ranking.things" (defArgs st_Ranking_things) (defBody st_Ranking_things) (defScope st_Ranking_things) .none kV_Ranking_things dc_Ranking_things pm_Ranking_things an_Ranking_things cd_Ranking_things ct_Ranking_things), sl_Ranking_things⟩)
    (c_Ranking_things : PySem.W.codeIn K cd_Ranking_things "Ranking.things" = true)
    (k_Ranking_things : PySem.W.keepIn K (.ref f_Ranking_things) = true)
    (a_RankingD_strD : PySem.W.findIn K (.ref C_Ranking) "__str__" = some (some (.ref f_RankingD_strD)))
    (i_RankingD_strD : PySem.W.isFn K (.ref f_RankingD_strD) = true)
    (l_RankingD_strD : K.lookup f_RankingD_strD = some ⟨oc_RankingD_strD, od_RankingD_strD, .func (PySem.W.fnOf "__str__" "Ranking.__str__" (defArgs st_RankingD_strD) (defBody st_RankingD_strD) (defScope st_RankingD_strD) .none kV_RankingD_strD dc_RankingD_strD pm_RankingD_strD an_RankingD_strD cd_RankingD_strD ct_RankingD_strD), sl_RankingD_strD⟩)
    (c_RankingD_strD : PySem.W.codeIn K cd_RankingD_strD "Ranking.__str__" = true)
    (k_RankingD_strD : PySem.W.keepIn K (.ref f_RankingD_strD) = true)
    (a_check_house : PySem.W.nsIn K mainGlobals "check_house" = some (some (.ref f_check_house)))
    (l_check_house : K.lookup f_check_house = some ⟨oc_check_house, od_check_house, .func (PySem.W.fnOf "check_house" "check_house" (defArgs st_check_house) (defBody st_check_house) (defScope st_check_house) .none kV_check_house dc_check_house pm_check_house an_check_house cd_check_house ct_check_house), sl_check_house⟩)
    (c_check_house : PySem.W.codeIn K cd_check_house "check_house" = true)
    (k_check_house : PySem.W.keepIn K (.ref f_check_house) = true)
    (a_check_rankings : PySem.W.nsIn K mainGlobals "check_rankings" = some (some (.ref f_check_rankings)))
    (l_check_rankings : K.lookup f_check_rankings = some ⟨oc_check_rankings, od_check_rankings, .func (PySem.W.fnOf "check_rankings" "check_rankings" (defArgs st_check_rankings) (defBody st_check_rankings) (defScope st_check_rankings) .none kV_check_rankings dc_check_rankings pm_check_rankings an_check_rankings cd_check_rankings ct_check_rankings), sl_check_rankings⟩)
    (c_check_rankings : PySem.W.codeIn K cd_check_rankings "check_rankings" = true)
    (k_check_rankings : PySem.W.keepIn K (.ref f_check_rankings) = true)
    (a_are_rows_of_a_house : PySem.W.nsIn K mainGlobals "are_rows_of_a_house" = some (some (.ref f_are_rows_of_a_house)))
    (l_are_rows_of_a_house : K.lookup f_are_rows_of_a_house = some ⟨oc_are_rows_of_a_house, od_are_rows_of_a_house, .func (PySem.W.fnOf "are_rows_of_a_house" "are_rows_of_a_house" (defArgs st_are_rows_of_a_house) (defBody st_are_rows_of_a_house) (defScope st_are_rows_of_a_house) .none kV_are_rows_of_a_house dc_are_rows_of_a_house pm_are_rows_of_a_house an_are_rows_of_a_house cd_are_rows_of_a_house ct_are_rows_of_a_house), sl_are_rows_of_a_house⟩)
    (c_are_rows_of_a_house : PySem.W.codeIn K cd_are_rows_of_a_house "are_rows_of_a_house" = true)
    (k_are_rows_of_a_house : PySem.W.keepIn K (.ref f_are_rows_of_a_house) = true)
    (a_HouseD_initD : PySem.W.findIn K (.ref C_House) "__init__" = some (some (.ref f_HouseD_initD)))
    (i_HouseD_initD : PySem.W.isFn K (.ref f_HouseD_initD) = true)
    (l_HouseD_initD : K.lookup f_HouseD_initD = some ⟨oc_HouseD_initD, od_HouseD_initD, .func (PySem.W.fnOf "__init__" "House.__init__" (defArgs st_HouseD_initD) (defBody st_HouseD_initD) (defScope st_HouseD_initD) .none kV_HouseD_initD dc_HouseD_initD pm_HouseD_initD an_HouseD_initD cd_HouseD_initD ct_HouseD_initD), sl_HouseD_initD⟩)
    (c_HouseD_initD : PySem.W.codeIn K cd_HouseD_initD "House.__init__" = true)
    (k_HouseD_initD : PySem.W.keepIn K (.ref f_HouseD_initD) = true)
    (a_House_read : PySem.W.findCls K (.ref C_House) (.type "type") "read" = some (.get (.builtin "classmethod.__get__") (.ref q_House_read) .none (.ref C_House)))
    (pr_House_read : PySem.W.recIn K q_House_read "classmethod" = some (.ref f_House_read :: rest_House_read))
    (fi_House_read : PySem.W.fnIn K f_House_read = true)
    (l_House_read : K.lookup f_House_read = some ⟨oc_House_read, od_House_read, .func (PySem.W.fnOf "read" "House.read" (defArgs st_House_read) (defBody st_House_read) (defScope st_House_read) .none kV_House_read dc_House_read pm_House_read an_House_read cd_House_read ct_House_read), sl_House_read⟩)
    (c_House_read : PySem.W.codeIn K cd_House_read "House.read" = true)
    (k_House_read : PySem.W.keepIn K (.ref f_House_read) = true)
    (a_House_rankings : PySem.W.findIn K (.ref C_House) "rankings" = some (some (.ref q_House_rankings)))
    (pg_House_rankings : PySem.W.specialIn K (.ref q_House_rankings) "__get__" = some (some (.builtin "property.__get__")))
    (pt_House_rankings : PySem.W.takesIn K (.ref q_House_rankings) = some true)
    (pr_House_rankings : PySem.W.recIn K q_House_rankings "property" = some (.ref f_House_rankings :: rest_House_rankings))
    (l_House_rankings : K.lookup f_House_rankings = some ⟨oc_House_rankings, od_House_rankings, .func (PySem.W.fnOf "rankings" "House.rankings" (defArgs st_House_rankings) (defBody st_House_rankings) (defScope st_House_rankings) .none kV_House_rankings dc_House_rankings pm_House_rankings an_House_rankings cd_House_rankings ct_House_rankings), sl_House_rankings⟩)
    (c_House_rankings : PySem.W.codeIn K cd_House_rankings "House.rankings" = true)
    (k_House_rankings : PySem.W.keepIn K (.ref f_House_rankings) = true)
    (a_House_things : PySem.W.findIn K (.ref C_House) "things" = some (some (.ref q_House_things)))
    (pg_House_things : PySem.W.specialIn K (.ref q_House_things) "__get__" = some (some (.builtin "property.__get__")))
    (pt_House_things : PySem.W.takesIn K (.ref q_House_things) = some true)
    (pr_House_things : PySem.W.recIn K q_House_things "property" = some (.ref f_House_things :: rest_House_things))
    (l_House_things : K.lookup f_House_things = some ⟨oc_House_things, od_House_things, .func (PySem.W.fnOf "things" "House.things" (defArgs st_House_things) (defBody st_House_things) (defScope st_House_things) .none kV_House_things dc_House_things pm_House_things an_House_things cd_House_things ct_House_things), sl_House_things⟩)
    (c_House_things : PySem.W.codeIn K cd_House_things "House.things" = true)
    (k_House_things : PySem.W.keepIn K (.ref f_House_things) = true)
    (a_House_crest_masks : PySem.W.findIn K (.ref C_House) "crest_masks" = some (some (.ref q_House_crest_masks)))
    (pg_House_crest_masks : PySem.W.specialIn K (.ref q_House_crest_masks) "__get__" = some (some (.builtin "property.__get__")))
    (pt_House_crest_masks : PySem.W.takesIn K (.ref q_House_crest_masks) = some true)
    (pr_House_crest_masks : PySem.W.recIn K q_House_crest_masks "property" = some (.ref f_House_crest_masks :: rest_House_crest_masks))
    (l_House_crest_masks : K.lookup f_House_crest_masks = some ⟨oc_House_crest_masks, od_House_crest_masks, .func (PySem.W.fnOf "crest_masks" "House.crest_masks" (defArgs st_House_crest_masks) (defBody st_House_crest_masks) (defScope st_House_crest_masks) .none kV_House_crest_masks dc_House_crest_masks pm_House_crest_masks an_House_crest_masks cd_House_crest_masks ct_House_crest_masks), sl_House_crest_masks⟩)
    (c_House_crest_masks : PySem.W.codeIn K cd_House_crest_masks "House.crest_masks" = true)
    (k_House_crest_masks : PySem.W.keepIn K (.ref f_House_crest_masks) = true)
    (a_House_table : PySem.W.findIn K (.ref C_House) "table" = some (some (.ref f_House_table)))
    (i_House_table : PySem.W.isFn K (.ref f_House_table) = true)
    (l_House_table : K.lookup f_House_table = some ⟨oc_House_table, od_House_table, .func (PySem.W.fnOf "table" "House.table" (defArgs st_House_table) (defBody st_House_table) (defScope st_House_table) .none kV_House_table dc_House_table pm_House_table an_House_table cd_House_table ct_House_table), sl_House_table⟩)
    (c_House_table : PySem.W.codeIn K cd_House_table "House.table" = true)
    (k_House_table : PySem.W.keepIn K (.ref f_House_table) = true)
    (a_HouseD_lenD : PySem.W.findIn K (.ref C_House) "__len__" = some (some (.ref f_HouseD_lenD)))
    (i_HouseD_lenD : PySem.W.isFn K (.ref f_HouseD_lenD) = true)
    (l_HouseD_lenD : K.lookup f_HouseD_lenD = some ⟨oc_HouseD_lenD, od_HouseD_lenD, .func (PySem.W.fnOf "__len__" "House.__len__" (defArgs st_HouseD_lenD) (defBody st_HouseD_lenD) (defScope st_HouseD_lenD) .none kV_HouseD_lenD dc_HouseD_lenD pm_HouseD_lenD an_HouseD_lenD cd_HouseD_lenD ct_HouseD_lenD), sl_HouseD_lenD⟩)
    (c_HouseD_lenD : PySem.W.codeIn K cd_HouseD_lenD "House.__len__" = true)
    (k_HouseD_lenD : PySem.W.keepIn K (.ref f_HouseD_lenD) = true)
    (a_HouseD_strD : PySem.W.findIn K (.ref C_House) "__str__" = some (some (.ref f_HouseD_strD)))
    (i_HouseD_strD : PySem.W.isFn K (.ref f_HouseD_strD) = true)
    (l_HouseD_strD : K.lookup f_HouseD_strD = some ⟨oc_HouseD_strD, od_HouseD_strD, .func (PySem.W.fnOf "__str__" "House.__str__" (defArgs st_HouseD_strD) (defBody st_HouseD_strD) (defScope st_HouseD_strD) .none kV_HouseD_strD dc_HouseD_strD pm_HouseD_strD an_HouseD_strD cd_HouseD_strD ct_HouseD_strD), sl_HouseD_strD⟩)
    (c_HouseD_strD : PySem.W.codeIn K cd_HouseD_strD "House.__str__" = true)
    (k_HouseD_strD : PySem.W.keepIn K (.ref f_HouseD_strD) = true)
    (a_HouseD_reprD : PySem.W.findIn K (.ref C_House) "__repr__" = some (some (.ref f_HouseD_reprD)))
    (i_HouseD_reprD : PySem.W.isFn K (.ref f_HouseD_reprD) = true)
    (l_HouseD_reprD : K.lookup f_HouseD_reprD = some ⟨oc_HouseD_reprD, od_HouseD_reprD, .func (PySem.W.fnOf "__repr__" "House.__repr__" (defArgs st_HouseD_reprD) (defBody st_HouseD_reprD) (defScope st_HouseD_reprD) .none kV_HouseD_reprD dc_HouseD_reprD pm_HouseD_reprD an_HouseD_reprD cd_HouseD_reprD ct_HouseD_reprD), sl_HouseD_reprD⟩)
    (c_HouseD_reprD : PySem.W.codeIn K cd_HouseD_reprD "House.__repr__" = true)
    (k_HouseD_reprD : PySem.W.keepIn K (.ref f_HouseD_reprD) = true)
    (a_l_purse : PySem.W.nsIn K mainGlobals "_law_purse" = some (some (.ref f_l_purse)))
    (l_l_purse : K.lookup f_l_purse = some ⟨oc_l_purse, od_l_purse, .func (PySem.W.fnOf "_law_purse" "_law_purse" (defArgs st_l_purse) (defBody st_l_purse) (defScope st_l_purse) .none kV_l_purse dc_l_purse pm_l_purse an_l_purse cd_l_purse ct_l_purse), sl_l_purse⟩)
    (c_l_purse : PySem.W.codeIn K cd_l_purse "_law_purse" = true)
    (k_l_purse : PySem.W.keepIn K (.ref f_l_purse) = true)
    (a_l_draw : PySem.W.nsIn K mainGlobals "_law_draw" = some (some (.ref f_l_draw)))
    (l_l_draw : K.lookup f_l_draw = some ⟨oc_l_draw, od_l_draw, .func (PySem.W.fnOf "_law_draw" "_law_draw" (defArgs st_l_draw) (defBody st_l_draw) (defScope st_l_draw) .none kV_l_draw dc_l_draw pm_l_draw an_l_draw cd_l_draw ct_l_draw), sl_l_draw⟩)
    (c_l_draw : PySem.W.codeIn K cd_l_draw "_law_draw" = true)
    (k_l_draw : PySem.W.keepIn K (.ref f_l_draw) = true)
    (a_l_things : PySem.W.nsIn K mainGlobals "_law_things" = some (some (.ref f_l_things)))
    (l_l_things : K.lookup f_l_things = some ⟨oc_l_things, od_l_things, .func (PySem.W.fnOf "_law_things" "_law_things" (defArgs st_l_things) (defBody st_l_things) (defScope st_l_things) .none kV_l_things dc_l_things pm_l_things an_l_things cd_l_things ct_l_things), sl_l_things⟩)
    (c_l_things : PySem.W.codeIn K cd_l_things "_law_things" = true)
    (k_l_things : PySem.W.keepIn K (.ref f_l_things) = true)
    (a_l_order : PySem.W.nsIn K mainGlobals "_law_order" = some (some (.ref f_l_order)))
    (l_l_order : K.lookup f_l_order = some ⟨oc_l_order, od_l_order, .func (PySem.W.fnOf "_law_order" "_law_order" (defArgs st_l_order) (defBody st_l_order) (defScope st_l_order) .none kV_l_order dc_l_order pm_l_order an_l_order cd_l_order ct_l_order), sl_l_order⟩)
    (c_l_order : PySem.W.codeIn K cd_l_order "_law_order" = true)
    (k_l_order : PySem.W.keepIn K (.ref f_l_order) = true)
    (a_l_near : PySem.W.nsIn K mainGlobals "_law_near" = some (some (.ref f_l_near)))
    (l_l_near : K.lookup f_l_near = some ⟨oc_l_near, od_l_near, .func (PySem.W.fnOf "_law_near" "_law_near" (defArgs st_l_near) (defBody st_l_near) (defScope st_l_near) .none kV_l_near dc_l_near pm_l_near an_l_near cd_l_near ct_l_near), sl_l_near⟩)
    (c_l_near : PySem.W.codeIn K cd_l_near "_law_near" = true)
    (k_l_near : PySem.W.keepIn K (.ref f_l_near) = true)
    (a_l_rows : PySem.W.nsIn K mainGlobals "_law_rows" = some (some (.ref f_l_rows)))
    (l_l_rows : K.lookup f_l_rows = some ⟨oc_l_rows, od_l_rows, .func (PySem.W.fnOf "_law_rows" "_law_rows" (defArgs st_l_rows) (defBody st_l_rows) (defScope st_l_rows) .none kV_l_rows dc_l_rows pm_l_rows an_l_rows cd_l_rows ct_l_rows), sl_l_rows⟩)
    (c_l_rows : PySem.W.codeIn K cd_l_rows "_law_rows" = true)
    (k_l_rows : PySem.W.keepIn K (.ref f_l_rows) = true)
    (a_l_house : PySem.W.nsIn K mainGlobals "_law_house" = some (some (.ref f_l_house)))
    (l_l_house : K.lookup f_l_house = some ⟨oc_l_house, od_l_house, .func (PySem.W.fnOf "_law_house" "_law_house" (defArgs st_l_house) (defBody st_l_house) (defScope st_l_house) .none kV_l_house dc_l_house pm_l_house an_l_house cd_l_house ct_l_house), sl_l_house⟩)
    (c_l_house : PySem.W.codeIn K cd_l_house "_law_house" = true)
    (k_l_house : PySem.W.keepIn K (.ref f_l_house) = true)
    (a_l_below : PySem.W.nsIn K mainGlobals "_law_below" = some (some (.ref f_l_below)))
    (l_l_below : K.lookup f_l_below = some ⟨oc_l_below, od_l_below, .func (PySem.W.fnOf "_law_below" "_law_below" (defArgs st_l_below) (defBody st_l_below) (defScope st_l_below) .none kV_l_below dc_l_below pm_l_below an_l_below cd_l_below ct_l_below), sl_l_below⟩)
    (c_l_below : PySem.W.codeIn K cd_l_below "_law_below" = true)
    (k_l_below : PySem.W.keepIn K (.ref f_l_below) = true)
    (a_l_part : PySem.W.nsIn K mainGlobals "_law_part" = some (some (.ref f_l_part)))
    (l_l_part : K.lookup f_l_part = some ⟨oc_l_part, od_l_part, .func (PySem.W.fnOf "_law_part" "_law_part" (defArgs st_l_part) (defBody st_l_part) (defScope st_l_part) .none kV_l_part dc_l_part pm_l_part an_l_part cd_l_part ct_l_part), sl_l_part⟩)
    (c_l_part : PySem.W.codeIn K cd_l_part "_law_part" = true)
    (k_l_part : PySem.W.keepIn K (.ref f_l_part) = true)
    (a_l_crests : PySem.W.nsIn K mainGlobals "_law_crests" = some (some (.ref f_l_crests)))
    (l_l_crests : K.lookup f_l_crests = some ⟨oc_l_crests, od_l_crests, .func (PySem.W.fnOf "_law_crests" "_law_crests" (defArgs st_l_crests) (defBody st_l_crests) (defScope st_l_crests) .none kV_l_crests dc_l_crests pm_l_crests an_l_crests cd_l_crests ct_l_crests), sl_l_crests⟩)
    (c_l_crests : PySem.W.codeIn K cd_l_crests "_law_crests" = true)
    (k_l_crests : PySem.W.keepIn K (.ref f_l_crests) = true)
    (a_l_line : PySem.W.nsIn K mainGlobals "_law_line" = some (some (.ref f_l_line)))
    (l_l_line : K.lookup f_l_line = some ⟨oc_l_line, od_l_line, .func (PySem.W.fnOf "_law_line" "_law_line" (defArgs st_l_line) (defBody st_l_line) (defScope st_l_line) .none kV_l_line dc_l_line pm_l_line an_l_line cd_l_line ct_l_line), sl_l_line⟩)
    (c_l_line : PySem.W.codeIn K cd_l_line "_law_line" = true)
    (k_l_line : PySem.W.keepIn K (.ref f_l_line) = true)
    (a_l_right : PySem.W.nsIn K mainGlobals "_law_right" = some (some (.ref f_l_right)))
    (l_l_right : K.lookup f_l_right = some ⟨oc_l_right, od_l_right, .func (PySem.W.fnOf "_law_right" "_law_right" (defArgs st_l_right) (defBody st_l_right) (defScope st_l_right) .none kV_l_right dc_l_right pm_l_right an_l_right cd_l_right ct_l_right), sl_l_right⟩)
    (c_l_right : PySem.W.codeIn K cd_l_right "_law_right" = true)
    (k_l_right : PySem.W.keepIn K (.ref f_l_right) = true)
    (a_law : PySem.W.nsIn K mainGlobals "law" = some (some (.ref f_law)))
    (l_law : K.lookup f_law = some ⟨oc_law, od_law, .func (PySem.W.fnOf "law" "law" (defArgs st_law) (defBody st_law) (defScope st_law) .none kV_law dc_law pm_law an_law cd_law ct_law), sl_law⟩)
    (c_law : PySem.W.codeIn K cd_law "law" = true)
    (k_law : PySem.W.keepIn K (.ref f_law) = true)
    (v_MOST_THINGS : PySem.W.nsIn K mainGlobals "MOST_THINGS" = some (some (.int 10 t_MOST_THINGS)))
    (v_MOST_PEOPLE : PySem.W.nsIn K mainGlobals "MOST_PEOPLE" = some (some (.int 24 t_MOST_PEOPLE)))
    (v_LETTERS : PySem.W.nsIn K mainGlobals "LETTERS" = some (some (.str "abcdefghijklmnopqrstuvwxyz" t_LETTERS)))
    (v_DIGITS : PySem.W.nsIn K mainGlobals "DIGITS" = some (some (.str "0123456789" t_DIGITS)))
    (v_LONGEST_NAME : PySem.W.nsIn K mainGlobals "LONGEST_NAME" = some (some (.int 8 t_LONGEST_NAME)))
    (z_len : PySem.W.nsIn K mainGlobals "len" = some none)
    (z_isinstance : PySem.W.nsIn K mainGlobals "isinstance" = some none)
    (z_all : PySem.W.nsIn K mainGlobals "all" = some none)
    (z_enumerate : PySem.W.nsIn K mainGlobals "enumerate" = some none)
    (z_tuple : PySem.W.nsIn K mainGlobals "tuple" = some none)
    (z_sorted : PySem.W.nsIn K mainGlobals "sorted" = some none)
    (z_abs : PySem.W.nsIn K mainGlobals "abs" = some none)
    (z_int : PySem.W.nsIn K mainGlobals "int" = some none)
    (z_divmod : PySem.W.nsIn K mainGlobals "divmod" = some none)
    (z_range : PySem.W.nsIn K mainGlobals "range" = some none)
    (z_list : PySem.W.nsIn K mainGlobals "list" = some none)
    (z_max : PySem.W.nsIn K mainGlobals "max" = some none)
    (z_min : PySem.W.nsIn K mainGlobals "min" = some none)
    (z_str : PySem.W.nsIn K mainGlobals "str" = some none)
    (z_bool : PySem.W.nsIn K mainGlobals "bool" = some none)
    (z_repr : PySem.W.nsIn K mainGlobals "repr" = some none)
    (z_zip : PySem.W.nsIn K mainGlobals "zip" = some none) : ∃ T : Tx K mg, T.a_law = fa := by
  have e := hfa.symm.trans (PySem.W.mg_of X G a_law)
  cases e
  exact ⟨{
    C := C_Ranking
    cl := ⟨cp_Ranking, ch_Ranking, co_Ranking, cs_Ranking⟩
    g_Ranking := PySem.W.mg_of X G cg_Ranking
    ne := cne_Ranking
    ob := cob_Ranking
    ty := fun e => .base (.ins e ⟨cp_Ranking, ch_Ranking, co_Ranking, cs_Ranking⟩ cca_Ranking ccb_Ranking ccc_Ranking cob_Ranking)
    nobool := cbo_Ranking
    fm := cfm_Ranking
    crd := ⟨crd_Ranking, cga_Ranking⟩
    cty := cty_Ranking
    no__row := cn_Ranking__row
    no__things := cn_Ranking__things
    no__rankings := cn_Ranking__rankings
    no__crest_masks := cn_Ranking__crest_masks
    C2 := C_House
    cl2 := ⟨cp_House, ch_House, co_House, cs_House⟩
    g_House := PySem.W.mg_of X G cg_House
    ne2 := cne_House
    ob2 := cob_House
    ty2 := fun e => .base (.ins e ⟨cp_House, ch_House, co_House, cs_House⟩ cca_House ccb_House ccc_House cob_House)
    nobool2 := cbo_House
    fm2 := cfm_House
    crd2 := ⟨crd_House, cga_House⟩
    cty2 := cty_House
    no__row2 := cn_House__row
    no__things2 := cn_House__things
    no__rankings2 := cn_House__rankings
    no__crest_masks2 := cn_House__crest_masks
    a_is_name := f_is_name
    fd_is_name := _
    F_is_name := fun_mk (st := st_is_name) l_is_name c_is_name k_is_name
    b_is_name := (fun_mk (st := st_is_name) l_is_name c_is_name k_is_name).binds (ps := ["value"]) fun _ _ _ _ _ _ us hl => match us, hl with | [_], _ => rfl
    g_is_name := PySem.W.mg_of X G a_is_name
    a_is_filled_tuple := f_is_filled_tuple
    fd_is_filled_tuple := _
    F_is_filled_tuple := fun_mk (st := st_is_filled_tuple) l_is_filled_tuple c_is_filled_tuple k_is_filled_tuple
    b_is_filled_tuple := (fun_mk (st := st_is_filled_tuple) l_is_filled_tuple c_is_filled_tuple k_is_filled_tuple).binds (ps := ["value"]) fun _ _ _ _ _ _ us hl => match us, hl with | [_], _ => rfl
    g_is_filled_tuple := PySem.W.mg_of X G a_is_filled_tuple
    a_is_one_of := f_is_one_of
    fd_is_one_of := _
    F_is_one_of := fun_mk (st := st_is_one_of) l_is_one_of c_is_one_of k_is_one_of
    b_is_one_of := (fun_mk (st := st_is_one_of) l_is_one_of c_is_one_of k_is_one_of).binds (ps := ["value", "things"]) fun _ _ _ _ _ _ us hl => match us, hl with | [_, _], _ => rfl
    g_is_one_of := PySem.W.mg_of X G a_is_one_of
    a_first_wrong_in_row := f_first_wrong_in_row
    fd_first_wrong_in_row := _
    F_first_wrong_in_row := fun_mk (st := st_first_wrong_in_row) l_first_wrong_in_row c_first_wrong_in_row k_first_wrong_in_row
    b_first_wrong_in_row := (fun_mk (st := st_first_wrong_in_row) l_first_wrong_in_row c_first_wrong_in_row k_first_wrong_in_row).binds (ps := ["row"]) fun _ _ _ _ _ _ us hl => match us, hl with | [_], _ => rfl
    g_first_wrong_in_row := PySem.W.mg_of X G a_first_wrong_in_row
    a_check_row := f_check_row
    fd_check_row := _
    F_check_row := fun_mk (st := st_check_row) l_check_row c_check_row k_check_row
    b_check_row := (fun_mk (st := st_check_row) l_check_row c_check_row k_check_row).binds (ps := ["row"]) fun _ _ _ _ _ _ us hl => match us, hl with | [_], _ => rfl
    g_check_row := PySem.W.mg_of X G a_check_row
    a_index_of := f_index_of
    fd_index_of := _
    F_index_of := fun_mk (st := st_index_of) l_index_of c_index_of k_index_of
    b_index_of := (fun_mk (st := st_index_of) l_index_of c_index_of k_index_of).binds (ps := ["name", "names"]) fun _ _ _ _ _ _ us hl => match us, hl with | [_, _], _ => rfl
    g_index_of := PySem.W.mg_of X G a_index_of
    a_mask_of := f_mask_of
    fd_mask_of := _
    F_mask_of := fun_mk (st := st_mask_of) l_mask_of c_mask_of k_mask_of
    b_mask_of := (fun_mk (st := st_mask_of) l_mask_of c_mask_of k_mask_of).binds (ps := ["names", "things"]) fun _ _ _ _ _ _ us hl => match us, hl with | [_, _], _ => rfl
    g_mask_of := PySem.W.mg_of X G a_mask_of
    a_below_masks := f_below_masks
    fd_below_masks := _
    F_below_masks := fun_mk (st := st_below_masks) l_below_masks c_below_masks k_below_masks
    b_below_masks := (fun_mk (st := st_below_masks) l_below_masks c_below_masks k_below_masks).binds (ps := ["row", "things"]) fun _ _ _ _ _ _ us hl => match us, hl with | [_, _], _ => rfl
    g_below_masks := PySem.W.mg_of X G a_below_masks
    a_is_covered := f_is_covered
    fd_is_covered := _
    F_is_covered := fun_mk (st := st_is_covered) l_is_covered c_is_covered k_is_covered
    b_is_covered := (fun_mk (st := st_is_covered) l_is_covered c_is_covered k_is_covered).binds (ps := ["mask", "masks"]) fun _ _ _ _ _ _ us hl => match us, hl with | [_, _], _ => rfl
    g_is_covered := PySem.W.mg_of X G a_is_covered
    a_greatest := f_greatest
    fd_greatest := _
    F_greatest := fun_mk (st := st_greatest) l_greatest c_greatest k_greatest
    b_greatest := (fun_mk (st := st_greatest) l_greatest c_greatest k_greatest).binds (ps := ["masks"]) fun _ _ _ _ _ _ us hl => match us, hl with | [_], _ => rfl
    g_greatest := PySem.W.mg_of X G a_greatest
    a_RankingD_initD := f_RankingD_initD
    fd_RankingD_initD := _
    F_RankingD_initD := fun_mk (st := st_RankingD_initD) l_RankingD_initD c_RankingD_initD k_RankingD_initD
    b_RankingD_initD := (fun_mk (st := st_RankingD_initD) l_RankingD_initD c_RankingD_initD k_RankingD_initD).binds (ps := ["self", "row"]) fun _ _ _ _ _ _ us hl => match us, hl with | [_, _], _ => rfl
    mkc := ⟨cm_Ranking, a_RankingD_initD, i_RankingD_initD, ck_Ranking⟩
    a_Ranking_row := f_Ranking_row
    fd_Ranking_row := _
    F_Ranking_row := fun_mk (st := st_Ranking_row) l_Ranking_row c_Ranking_row k_Ranking_row
    b_Ranking_row := (fun_mk (st := st_Ranking_row) l_Ranking_row c_Ranking_row k_Ranking_row).binds (ps := ["self"]) fun _ _ _ _ _ _ us hl => match us, hl with | [_], _ => rfl
    q_Ranking_row := q_Ranking_row
    p_row := ⟨a_Ranking_row, pg_Ranking_row, pt_Ranking_row, ⟨_, pr_Ranking_row⟩⟩
    a_Ranking_things := f_Ranking_things
    fd_Ranking_things := _
    F_Ranking_things := fun_mk (st := st_Ranking_things) l_Ranking_things c_Ranking_things k_Ranking_things
    b_Ranking_things := (fun_mk (st := st_Ranking_things) l_Ranking_things c_Ranking_things k_Ranking_things).binds (ps := ["self"]) fun _ _ _ _ _ _ us hl => match us, hl with | [_], _ => rfl
    q_Ranking_things := q_Ranking_things
    p_things := ⟨a_Ranking_things, pg_Ranking_things, pt_Ranking_things, ⟨_, pr_Ranking_things⟩⟩
    a_RankingD_strD := f_RankingD_strD
    fd_RankingD_strD := _
    F_RankingD_strD := fun_mk (st := st_RankingD_strD) l_RankingD_strD c_RankingD_strD k_RankingD_strD
    b_RankingD_strD := (fun_mk (st := st_RankingD_strD) l_RankingD_strD c_RankingD_strD k_RankingD_strD).binds (ps := ["self"]) fun _ _ _ _ _ _ us hl => match us, hl with | [_], _ => rfl
    m_RankingD_strD := ⟨a_RankingD_strD, i_RankingD_strD, k_RankingD_strD⟩
    a_check_house := f_check_house
    fd_check_house := _
    F_check_house := fun_mk (st := st_check_house) l_check_house c_check_house k_check_house
    b_check_house := (fun_mk (st := st_check_house) l_check_house c_check_house k_check_house).binds (ps := ["house"]) fun _ _ _ _ _ _ us hl => match us, hl with | [_], _ => rfl
    g_check_house := PySem.W.mg_of X G a_check_house
    a_check_rankings := f_check_rankings
    fd_check_rankings := _
    F_check_rankings := fun_mk (st := st_check_rankings) l_check_rankings c_check_rankings k_check_rankings
    b_check_rankings := (fun_mk (st := st_check_rankings) l_check_rankings c_check_rankings k_check_rankings).binds (ps := ["rankings"]) fun _ _ _ _ _ _ us hl => match us, hl with | [_], _ => rfl
    g_check_rankings := PySem.W.mg_of X G a_check_rankings
    a_are_rows_of_a_house := f_are_rows_of_a_house
    fd_are_rows_of_a_house := _
    F_are_rows_of_a_house := fun_mk (st := st_are_rows_of_a_house) l_are_rows_of_a_house c_are_rows_of_a_house k_are_rows_of_a_house
    b_are_rows_of_a_house := (fun_mk (st := st_are_rows_of_a_house) l_are_rows_of_a_house c_are_rows_of_a_house k_are_rows_of_a_house).binds (ps := ["rows"]) fun _ _ _ _ _ _ us hl => match us, hl with | [_], _ => rfl
    g_are_rows_of_a_house := PySem.W.mg_of X G a_are_rows_of_a_house
    a_HouseD_initD := f_HouseD_initD
    fd_HouseD_initD := _
    F_HouseD_initD := fun_mk (st := st_HouseD_initD) l_HouseD_initD c_HouseD_initD k_HouseD_initD
    bv_HouseD_initD := by exact fun u rest _ => match rest with | [] => rfl | _ :: _ => rfl
    mkc2 := ⟨cm_House, a_HouseD_initD, i_HouseD_initD, ck_House⟩
    a_House_read := f_House_read
    fd_House_read := _
    F_House_read := fun_mk (st := st_House_read) l_House_read c_House_read k_House_read
    b_House_read := (fun_mk (st := st_House_read) l_House_read c_House_read k_House_read).binds (ps := ["cls", "text"]) fun _ _ _ _ _ _ us hl => match us, hl with | [_, _], _ => rfl
    q_House_read := q_House_read
    cm_House_read := ⟨a_House_read, ⟨_, pr_House_read⟩, fi_House_read⟩
    a_House_rankings := f_House_rankings
    fd_House_rankings := _
    F_House_rankings := fun_mk (st := st_House_rankings) l_House_rankings c_House_rankings k_House_rankings
    b_House_rankings := (fun_mk (st := st_House_rankings) l_House_rankings c_House_rankings k_House_rankings).binds (ps := ["self"]) fun _ _ _ _ _ _ us hl => match us, hl with | [_], _ => rfl
    q_House_rankings := q_House_rankings
    p2_rankings := ⟨a_House_rankings, pg_House_rankings, pt_House_rankings, ⟨_, pr_House_rankings⟩⟩
    a_House_things := f_House_things
    fd_House_things := _
    F_House_things := fun_mk (st := st_House_things) l_House_things c_House_things k_House_things
    b_House_things := (fun_mk (st := st_House_things) l_House_things c_House_things k_House_things).binds (ps := ["self"]) fun _ _ _ _ _ _ us hl => match us, hl with | [_], _ => rfl
    q_House_things := q_House_things
    p2_things := ⟨a_House_things, pg_House_things, pt_House_things, ⟨_, pr_House_things⟩⟩
    a_House_crest_masks := f_House_crest_masks
    fd_House_crest_masks := _
    F_House_crest_masks := fun_mk (st := st_House_crest_masks) l_House_crest_masks c_House_crest_masks k_House_crest_masks
    b_House_crest_masks := (fun_mk (st := st_House_crest_masks) l_House_crest_masks c_House_crest_masks k_House_crest_masks).binds (ps := ["self"]) fun _ _ _ _ _ _ us hl => match us, hl with | [_], _ => rfl
    q_House_crest_masks := q_House_crest_masks
    p2_crest_masks := ⟨a_House_crest_masks, pg_House_crest_masks, pt_House_crest_masks, ⟨_, pr_House_crest_masks⟩⟩
    a_House_table := f_House_table
    fd_House_table := _
    F_House_table := fun_mk (st := st_House_table) l_House_table c_House_table k_House_table
    b_House_table := (fun_mk (st := st_House_table) l_House_table c_House_table k_House_table).binds (ps := ["self"]) fun _ _ _ _ _ _ us hl => match us, hl with | [_], _ => rfl
    m_House_table := ⟨a_House_table, i_House_table, k_House_table⟩
    a_HouseD_lenD := f_HouseD_lenD
    fd_HouseD_lenD := _
    F_HouseD_lenD := fun_mk (st := st_HouseD_lenD) l_HouseD_lenD c_HouseD_lenD k_HouseD_lenD
    b_HouseD_lenD := (fun_mk (st := st_HouseD_lenD) l_HouseD_lenD c_HouseD_lenD k_HouseD_lenD).binds (ps := ["self"]) fun _ _ _ _ _ _ us hl => match us, hl with | [_], _ => rfl
    m_HouseD_lenD := ⟨a_HouseD_lenD, i_HouseD_lenD, k_HouseD_lenD⟩
    a_HouseD_strD := f_HouseD_strD
    fd_HouseD_strD := _
    F_HouseD_strD := fun_mk (st := st_HouseD_strD) l_HouseD_strD c_HouseD_strD k_HouseD_strD
    b_HouseD_strD := (fun_mk (st := st_HouseD_strD) l_HouseD_strD c_HouseD_strD k_HouseD_strD).binds (ps := ["self"]) fun _ _ _ _ _ _ us hl => match us, hl with | [_], _ => rfl
    m_HouseD_strD := ⟨a_HouseD_strD, i_HouseD_strD, k_HouseD_strD⟩
    a_HouseD_reprD := f_HouseD_reprD
    fd_HouseD_reprD := _
    F_HouseD_reprD := fun_mk (st := st_HouseD_reprD) l_HouseD_reprD c_HouseD_reprD k_HouseD_reprD
    b_HouseD_reprD := (fun_mk (st := st_HouseD_reprD) l_HouseD_reprD c_HouseD_reprD k_HouseD_reprD).binds (ps := ["self"]) fun _ _ _ _ _ _ us hl => match us, hl with | [_], _ => rfl
    m_HouseD_reprD := ⟨a_HouseD_reprD, i_HouseD_reprD, k_HouseD_reprD⟩
    a_l_purse := f_l_purse
    fd_l_purse := _
    F_l_purse := fun_mk (st := st_l_purse) l_l_purse c_l_purse k_l_purse
    b_l_purse := (fun_mk (st := st_l_purse) l_l_purse c_l_purse k_l_purse).binds (ps := ["_law_script", "_law_spot"]) fun _ _ _ _ _ _ us hl => match us, hl with | [_, _], _ => rfl
    g_l_purse := PySem.W.mg_of X G a_l_purse
    a_l_draw := f_l_draw
    fd_l_draw := _
    F_l_draw := fun_mk (st := st_l_draw) l_l_draw c_l_draw k_l_draw
    b_l_draw := (fun_mk (st := st_l_draw) l_l_draw c_l_draw k_l_draw).binds (ps := ["_law_purse_here", "_law_many"]) fun _ _ _ _ _ _ us hl => match us, hl with | [_, _], _ => rfl
    g_l_draw := PySem.W.mg_of X G a_l_draw
    a_l_things := f_l_things
    fd_l_things := _
    F_l_things := fun_mk (st := st_l_things) l_l_things c_l_things k_l_things
    b_l_things := (fun_mk (st := st_l_things) l_l_things c_l_things k_l_things).binds (ps := ["_law_purse_here", "_law_many"]) fun _ _ _ _ _ _ us hl => match us, hl with | [_, _], _ => rfl
    g_l_things := PySem.W.mg_of X G a_l_things
    a_l_order := f_l_order
    fd_l_order := _
    F_l_order := fun_mk (st := st_l_order) l_l_order c_l_order k_l_order
    b_l_order := (fun_mk (st := st_l_order) l_l_order c_l_order k_l_order).binds (ps := ["_law_purse_here", "_law_things_here"]) fun _ _ _ _ _ _ us hl => match us, hl with | [_, _], _ => rfl
    g_l_order := PySem.W.mg_of X G a_l_order
    a_l_near := f_l_near
    fd_l_near := _
    F_l_near := fun_mk (st := st_l_near) l_l_near c_l_near k_l_near
    b_l_near := (fun_mk (st := st_l_near) l_l_near c_l_near k_l_near).binds (ps := ["_law_purse_here", "_law_row"]) fun _ _ _ _ _ _ us hl => match us, hl with | [_, _], _ => rfl
    g_l_near := PySem.W.mg_of X G a_l_near
    a_l_rows := f_l_rows
    fd_l_rows := _
    F_l_rows := fun_mk (st := st_l_rows) l_l_rows c_l_rows k_l_rows
    b_l_rows := (fun_mk (st := st_l_rows) l_l_rows c_l_rows k_l_rows).binds (ps := ["_law_purse_here", "_law_things_here", "_law_most"]) fun _ _ _ _ _ _ us hl => match us, hl with | [_, _, _], _ => rfl
    g_l_rows := PySem.W.mg_of X G a_l_rows
    a_l_house := f_l_house
    fd_l_house := _
    F_l_house := fun_mk (st := st_l_house) l_l_house c_l_house k_l_house
    b_l_house := (fun_mk (st := st_l_house) l_l_house c_l_house k_l_house).binds (ps := ["_law_rows_here"]) fun _ _ _ _ _ _ us hl => match us, hl with | [_], _ => rfl
    g_l_house := PySem.W.mg_of X G a_l_house
    a_l_below := f_l_below
    fd_l_below := _
    F_l_below := fun_mk (st := st_l_below) l_l_below c_l_below k_l_below
    b_l_below := (fun_mk (st := st_l_below) l_l_below c_l_below k_l_below).binds (ps := ["_law_row", "_law_thing"]) fun _ _ _ _ _ _ us hl => match us, hl with | [_, _], _ => rfl
    g_l_below := PySem.W.mg_of X G a_l_below
    a_l_part := f_l_part
    fd_l_part := _
    F_l_part := fun_mk (st := st_l_part) l_l_part c_l_part k_l_part
    b_l_part := (fun_mk (st := st_l_part) l_l_part c_l_part k_l_part).binds (ps := ["_law_one", "_law_other"]) fun _ _ _ _ _ _ us hl => match us, hl with | [_, _], _ => rfl
    g_l_part := PySem.W.mg_of X G a_l_part
    a_l_crests := f_l_crests
    fd_l_crests := _
    F_l_crests := fun_mk (st := st_l_crests) l_l_crests c_l_crests k_l_crests
    b_l_crests := (fun_mk (st := st_l_crests) l_l_crests c_l_crests k_l_crests).binds (ps := ["_law_rows_here"]) fun _ _ _ _ _ _ us hl => match us, hl with | [_], _ => rfl
    g_l_crests := PySem.W.mg_of X G a_l_crests
    a_l_line := f_l_line
    fd_l_line := _
    F_l_line := fun_mk (st := st_l_line) l_l_line c_l_line k_l_line
    b_l_line := (fun_mk (st := st_l_line) l_l_line c_l_line k_l_line).binds (ps := ["_law_thing", "_law_rows_here", "_law_peaks"]) fun _ _ _ _ _ _ us hl => match us, hl with | [_, _, _], _ => rfl
    g_l_line := PySem.W.mg_of X G a_l_line
    a_l_right := f_l_right
    fd_l_right := _
    F_l_right := fun_mk (st := st_l_right) l_l_right c_l_right k_l_right
    b_l_right := (fun_mk (st := st_l_right) l_l_right c_l_right k_l_right).binds (ps := ["_law_purse_here"]) fun _ _ _ _ _ _ us hl => match us, hl with | [_], _ => rfl
    g_l_right := PySem.W.mg_of X G a_l_right
    a_law := fa
    fd_law := _
    F_law := fun_mk (st := st_law) l_law c_law k_law
    b_law := (fun_mk (st := st_law) l_law c_law k_law).binds (ps := ["_law_script"]) fun _ _ _ _ _ _ us hl => match us, hl with | [_], _ => rfl
    g_law := PySem.W.mg_of X G a_law
    g_MOST_THINGS := ⟨_, PySem.W.mg_of X G v_MOST_THINGS⟩
    g_MOST_PEOPLE := ⟨_, PySem.W.mg_of X G v_MOST_PEOPLE⟩
    g_LETTERS := ⟨_, PySem.W.mg_of X G v_LETTERS⟩
    g_DIGITS := ⟨_, PySem.W.mg_of X G v_DIGITS⟩
    g_LONGEST_NAME := ⟨_, PySem.W.mg_of X G v_LONGEST_NAME⟩
    n_len := PySem.W.mg_none_of X G z_len
    n_isinstance := PySem.W.mg_none_of X G z_isinstance
    n_all := PySem.W.mg_none_of X G z_all
    n_enumerate := PySem.W.mg_none_of X G z_enumerate
    n_tuple := PySem.W.mg_none_of X G z_tuple
    n_sorted := PySem.W.mg_none_of X G z_sorted
    n_abs := PySem.W.mg_none_of X G z_abs
    n_int := PySem.W.mg_none_of X G z_int
    n_divmod := PySem.W.mg_none_of X G z_divmod
    n_range := PySem.W.mg_none_of X G z_range
    n_list := PySem.W.mg_none_of X G z_list
    n_max := PySem.W.mg_none_of X G z_max
    n_min := PySem.W.mg_none_of X G z_min
    n_str := PySem.W.mg_none_of X G z_str
    n_bool := PySem.W.mg_none_of X G z_bool
    n_repr := PySem.W.mg_none_of X G z_repr
    n_zip := PySem.W.mg_none_of X G z_zip }, rfl⟩
end MH
noncomputable section
namespace MHead
open PySem PySem.W PySem.Calls PyProof.Rows HandSHeadRun MN MH
open L2 (defArgs defBody defScope inClass)
abbrev P0 : Program := PySem.Challenge.pw_menuhouses_k20_tables_of_houses
abbrev R0 : OpenRow := OpenLaw.row PySem.Challenge.rw_menuhouses_k20_tables_of_houses
def b0 : List Stmt := behindTheImports P0
def env0 : Env := { scope := P0.main.scope, locals := mainNs, globals := mainNs, cells := [], code := (@Value.ref (nat_lit 13)), frame := some (nat_lit 14) }
abbrev c0 : Code := .body b0 env0
abbrev q0 : Pos := (@Pos.mk (nat_lit 0) (nat_lit 0) (nat_lit 0) (nat_lit 0))
def o11 (P : Params) : Obj := (@Obj.mk (@Value.type "tuple") none (@Data.seq (.mk []) (nat_lit 0)) (.mk []))
def o12 (P : Params) : Obj := (@Obj.mk Value.none none (@Data.fields (.mk [])) (.mk []))
def o13 (P : Params) : Obj := (@Obj.mk (@Value.type "code") none (@Data.fields (.mk [(@Value.str (@Str.ofString "<module>") (nat_lit 182)), (@Value.str (@Str.ofString "<module>") (nat_lit 183)), (@Value.str (@Str.ofString "/claim/cut.py") (nat_lit 184)), (@Value.int (.ofNat (nat_lit 1)) (nat_lit 0)), (@Value.int (.ofNat (nat_lit 0)) (nat_lit 0)), (@Value.int (.ofNat (nat_lit 0)) (nat_lit 0)), (@Value.int (.ofNat (nat_lit 0)) (nat_lit 0)), (@Value.int (.ofNat (nat_lit 0)) (nat_lit 0)), (@Value.ref (nat_lit 11)), (@Value.bool false), (@Value.int (.ofNat (nat_lit 181)) (nat_lit 0)), (@Value.ref (nat_lit 12)), Value.none, Value.none, Value.none, Value.none, (@Value.int (.ofNat (nat_lit 185)) (nat_lit 0)), (@Value.int (.ofNat (nat_lit 1)) (nat_lit 0)), (@Value.str (@Str.ofString "/claim/cut.py") (nat_lit 186))])) (.mk []))
def o14 (P : Params) : Obj := (@Obj.mk (@Value.type "frame") none Data.plain (.mk [(some (@Value.ref (nat_lit 13))), (some (@Value.ref (nat_lit 3))), (some (@Value.ref (nat_lit 3))), none, (some (@Value.str (@Str.ofString "__main__") (nat_lit 164))), none, (some (@Value.ref (nat_lit 0)))]))
def o3 (P : Params) : Obj := (@Obj.mk (@Value.type "dict") none (@Data.dict (.mk [(@DictEntry.mk (@PyData.keyHash P (@Str.ofString "__name__")) (@Value.str (@Str.ofString "__name__") (nat_lit 165)) (@Value.str (@Str.ofString "menuhouses.errors") (nat_lit 194))), (@DictEntry.mk (@PyData.keyHash P (@Str.ofString "__doc__")) (@Value.str (@Str.ofString "__doc__") (nat_lit 166)) Value.none), (@DictEntry.mk (@PyData.keyHash P (@Str.ofString "__package__")) (@Value.str (@Str.ofString "__package__") (nat_lit 167)) Value.none), (@DictEntry.mk (@PyData.keyHash P (@Str.ofString "__loader__")) (@Value.str (@Str.ofString "__loader__") (nat_lit 168)) (@Value.builtin "__main__.__loader__#opaque")), (@DictEntry.mk (@PyData.keyHash P (@Str.ofString "__spec__")) (@Value.str (@Str.ofString "__spec__") (nat_lit 169)) Value.none), (@DictEntry.mk (@PyData.keyHash P (@Str.ofString "__annotations__")) (@Value.str (@Str.ofString "__annotations__") (nat_lit 170)) (@Value.ref (nat_lit 6))), (@DictEntry.mk (@PyData.keyHash P (@Str.ofString "__builtins__")) (@Value.str (@Str.ofString "__builtins__") (nat_lit 171)) (@Value.ref (nat_lit 4))), (@DictEntry.mk (@PyData.keyHash P (@Str.ofString "__file__")) (@Value.str (@Str.ofString "__file__") (nat_lit 173)) (@Value.str (@Str.ofString "/claim/cut.py") (nat_lit 172))), (@DictEntry.mk (@PyData.keyHash P (@Str.ofString "__cached__")) (@Value.str (@Str.ofString "__cached__") (nat_lit 174)) Value.none), (@DictEntry.mk (@PyData.keyHash P (@Str.ofString "_wall")) (@Value.str (@Str.ofString "_wall") (nat_lit 193)) (@Value.ref (nat_lit 21))), (@DictEntry.mk (@PyData.keyHash P (@Str.ofString "WrongValue")) (@Value.str (@Str.ofString "WrongValue") (nat_lit 213)) (@Value.ref (nat_lit 31))), (@DictEntry.mk (@PyData.keyHash P (@Str.ofString "InvalidText")) (@Value.str (@Str.ofString "InvalidText") (nat_lit 238)) (@Value.ref (nat_lit 51))), (@DictEntry.mk (@PyData.keyHash P (@Str.ofString "InvalidIndex")) (@Value.str (@Str.ofString "InvalidIndex") (nat_lit 263)) (@Value.ref (nat_lit 70))), (@DictEntry.mk (@PyData.keyHash P (@Str.ofString "NotAHouse")) (@Value.str (@Str.ofString "NotAHouse") (nat_lit 288)) (@Value.ref (nat_lit 89))), (@DictEntry.mk (@PyData.keyHash P (@Str.ofString "OtherThings")) (@Value.str (@Str.ofString "OtherThings") (nat_lit 313)) (@Value.ref (nat_lit 108)))]) (nat_lit 15)) (.mk []))
def o12v1 (P : Params) : Obj := (@Obj.mk Value.none none (@Data.fields (.mk [(@Value.int (.ofNat (nat_lit 1)) (nat_lit 0)), (@Value.int (.ofNat (nat_lit 0)) (nat_lit 0)), (@Value.ref (nat_lit 20)), (@Value.int (.ofNat (nat_lit 5)) (nat_lit 0)), (@Value.int (.ofNat (nat_lit 0)) (nat_lit 0)), (@Value.ref (nat_lit 27)), (@Value.int (.ofNat (nat_lit 7)) (nat_lit 0)), (@Value.int (.ofNat (nat_lit 0)) (nat_lit 0)), (@Value.ref (nat_lit 40)), (@Value.int (.ofNat (nat_lit 11)) (nat_lit 0)), (@Value.int (.ofNat (nat_lit 0)) (nat_lit 0)), (@Value.ref (nat_lit 59)), (@Value.int (.ofNat (nat_lit 15)) (nat_lit 0)), (@Value.int (.ofNat (nat_lit 0)) (nat_lit 0)), (@Value.ref (nat_lit 78)), (@Value.int (.ofNat (nat_lit 19)) (nat_lit 0)), (@Value.int (.ofNat (nat_lit 0)) (nat_lit 0)), (@Value.ref (nat_lit 97))])) (.mk []))
def o15 (P : Params) : Obj := (@Obj.mk (@Value.type "tuple") none (@Data.seq (.mk []) (nat_lit 0)) (.mk []))
def o16 (P : Params) : Obj := (@Obj.mk Value.none none (@Data.fields (.mk [])) (.mk []))
def o17 (P : Params) : Obj := (@Obj.mk (@Value.type "tuple") none (@Data.seq (.mk [(@Value.str (@Str.ofString "k") (nat_lit 190))]) (nat_lit 0)) (.mk []))
def o18 (P : Params) : Obj := (@Obj.mk (@Value.type "tuple") none (@Data.seq (.mk []) (nat_lit 0)) (.mk []))
def o19 (P : Params) : Obj := (@Obj.mk Value.none none (@Data.func (@FuncData.mk (@Str.ofString "_wall") (@Str.ofString "_wall") (defArgs (topS 0)) (@FuncBody.stmts (defBody (topS 0))) (defScope (topS 0)) (nat_lit 0) [] Value.none Value.none Value.none Value.none none Value.none Value.none (nat_lit 0))) (.mk []))
def o20 (P : Params) : Obj := (@Obj.mk (@Value.type "code") none (@Data.fields (.mk [(@Value.str (@Str.ofString "_wall") (nat_lit 187)), (@Value.str (@Str.ofString "_wall") (nat_lit 188)), (@Value.str (@Str.ofString "/claim/cut.py") (nat_lit 189)), (@Value.int (.ofNat (nat_lit 1)) (nat_lit 0)), (@Value.int (.ofNat (nat_lit 1)) (nat_lit 0)), (@Value.int (.ofNat (nat_lit 0)) (nat_lit 0)), (@Value.int (.ofNat (nat_lit 0)) (nat_lit 0)), (@Value.int (.ofNat (nat_lit 3)) (nat_lit 0)), (@Value.ref (nat_lit 15)), (@Value.bool true), (@Value.int (.ofNat (nat_lit 181)) (nat_lit 0)), (@Value.ref (nat_lit 16)), Value.none, (@Value.ref (nat_lit 17)), (@Value.ref (nat_lit 18)), (@Value.ref (nat_lit 19)), (@Value.int (.ofNat (nat_lit 191)) (nat_lit 0)), (@Value.int (.ofNat (nat_lit 1)) (nat_lit 0)), (@Value.str (@Str.ofString "/claim/cut.py") (nat_lit 192))])) (.mk []))
def o21 (P : Params) : Obj := (@Obj.mk (@Value.type "function") none (@Data.func (@FuncData.mk (@Str.ofString "_wall") (@Str.ofString "_wall") (defArgs (topS 0)) (@FuncBody.stmts (defBody (topS 0))) (defScope (topS 0)) (nat_lit 3) [] Value.none Value.none Value.none (@Value.str (@Str.ofString "__main__") (nat_lit 164)) none (@Value.ref (nat_lit 20)) Value.none (nat_lit 0))) (.mk []))
def o22 (P : Params) : Obj := (@Obj.mk (@Value.type "tuple") none (@Data.seq (.mk [(@Value.type "ValueError")]) (nat_lit 0)) (.mk []))
def o23 (P : Params) : Obj := (@Obj.mk (@Value.type "builtin_function_or_method") none (@Data.fields (.mk [(@Value.builtin "type.__prepare__"), (@Value.type "type")])) (.mk []))
def o24 (P : Params) : Obj := (@Obj.mk (@Value.type "dict") none (@Data.dict (.mk [(@DictEntry.mk (@PyData.keyHash P (@Str.ofString "__module__")) (@Value.str (@Str.ofString "__module__") (nat_lit 203)) (@Value.str (@Str.ofString "menuhouses.errors") (nat_lit 194))), (@DictEntry.mk (@PyData.keyHash P (@Str.ofString "__qualname__")) (@Value.str (@Str.ofString "__qualname__") (nat_lit 205)) (@Value.str (@Str.ofString "WrongValue") (nat_lit 204))), (@DictEntry.mk (@PyData.keyHash P (@Str.ofString "__firstlineno__")) (@Value.str (@Str.ofString "__firstlineno__") (nat_lit 207)) (@Value.int (.ofNat (nat_lit 5)) (nat_lit 206))), (@DictEntry.mk (@PyData.keyHash P (@Str.ofString "__static_attributes__")) (@Value.str (@Str.ofString "__static_attributes__") (nat_lit 208)) (@Value.ref (nat_lit 29)))]) (nat_lit 4)) (.mk []))
def o25 (P : Params) : Obj := (@Obj.mk (@Value.type "tuple") none (@Data.seq (.mk []) (nat_lit 0)) (.mk []))
def o26 (P : Params) : Obj := (@Obj.mk Value.none none (@Data.fields (.mk [])) (.mk []))
def o27 (P : Params) : Obj := (@Obj.mk (@Value.type "code") none (@Data.fields (.mk [(@Value.str (@Str.ofString "WrongValue") (nat_lit 198)), (@Value.str (@Str.ofString "WrongValue") (nat_lit 199)), (@Value.str (@Str.ofString "/claim/cut.py") (nat_lit 200)), (@Value.int (.ofNat (nat_lit 5)) (nat_lit 0)), (@Value.int (.ofNat (nat_lit 0)) (nat_lit 0)), (@Value.int (.ofNat (nat_lit 0)) (nat_lit 0)), (@Value.int (.ofNat (nat_lit 0)) (nat_lit 0)), (@Value.int (.ofNat (nat_lit 0)) (nat_lit 0)), (@Value.ref (nat_lit 25)), (@Value.bool false), (@Value.int (.ofNat (nat_lit 181)) (nat_lit 0)), (@Value.ref (nat_lit 26)), Value.none, Value.none, Value.none, Value.none, (@Value.int (.ofNat (nat_lit 201)) (nat_lit 0)), (@Value.int (.ofNat (nat_lit 5)) (nat_lit 0)), (@Value.str (@Str.ofString "/claim/cut.py") (nat_lit 202))])) (.mk []))
def o28 (P : Params) : Obj := (@Obj.mk (@Value.type "frame") none Data.plain (.mk [(some (@Value.ref (nat_lit 27))), (some (@Value.ref (nat_lit 3))), (some (@Value.ref (nat_lit 24))), none, (some (@Value.str (@Str.ofString "menuhouses.errors") (nat_lit 194))), none, (some (@Value.ref (nat_lit 0)))]))
def o29 (P : Params) : Obj := (@Obj.mk (@Value.type "tuple") none (@Data.seq (.mk []) (nat_lit 0)) (.mk []))
def o30 (P : Params) : Obj := (@Obj.mk (@Value.type "dict") none (@Data.dict (.mk [(@DictEntry.mk (@PyData.keyHash P (@Str.ofString "__module__")) (@Value.str (@Str.ofString "__module__") (nat_lit 203)) (@Value.str (@Str.ofString "menuhouses.errors") (nat_lit 194))), (@DictEntry.mk (@PyData.keyHash P (@Str.ofString "__firstlineno__")) (@Value.str (@Str.ofString "__firstlineno__") (nat_lit 207)) (@Value.int (.ofNat (nat_lit 5)) (nat_lit 206))), (@DictEntry.mk (@PyData.keyHash P (@Str.ofString "__static_attributes__")) (@Value.str (@Str.ofString "__static_attributes__") (nat_lit 208)) (@Value.ref (nat_lit 29))), (@DictEntry.mk (@PyData.keyHash P (@Str.ofString "__weakref__")) (@Value.str (@Str.ofString "__weakref__") (nat_lit 210)) (@Value.ref (nat_lit 32))), (@DictEntry.mk (@PyData.keyHash P (@Str.ofString "__doc__")) (@Value.str (@Str.ofString "__doc__") (nat_lit 211)) Value.none)]) (nat_lit 3)) (.mk []))
def o31 (P : Params) : Obj := (@Obj.mk (@Value.type "type") none (@Data.cls (@ClassData.mk (@Str.ofString "WrongValue") [(@Value.type "ValueError")] [(@Value.ref (nat_lit 31)), (@Value.type "ValueError"), (@Value.type "Exception"), (@Value.type "BaseException"), (@Value.type "object")] (nat_lit 30) (@Str.ofString "WrongValue") true [] [(@Value.ref (nat_lit 51)), (@Value.ref (nat_lit 70)), (@Value.ref (nat_lit 89)), (@Value.ref (nat_lit 108))] false none false)) (.mk [(some (@Value.ref (nat_lit 22))), none, (some (@Value.str (@Str.ofString "WrongValue") (nat_lit 196))), (some (@Value.str (@Str.ofString "WrongValue") (nat_lit 204))), (some (@Value.builtin "ValueError.__new__")), (some (@Value.bool true))]))
def o32 (P : Params) : Obj := (@Obj.mk (@Value.type "getset_descriptor") none (@Data.fields (.mk [(@Value.str (@Str.ofString "__weakref__") (nat_lit 209)), (@Value.ref (nat_lit 31)), (@Value.builtin "ExceptionGroup.__weakref__"), Value.none])) (.mk []))
def o33 (P : Params) : Obj := (@Obj.mk (@Value.type "super") none (@Data.fields (.mk [(@Value.ref (nat_lit 31)), (@Value.ref (nat_lit 31)), (@Value.ref (nat_lit 31))])) (.mk []))
def o34 (P : Params) : Obj := (@Obj.mk (@Value.type "builtin_function_or_method") none (@Data.fields (.mk [(@Value.builtin "object.__init_subclass__"), (@Value.ref (nat_lit 31))])) (.mk []))
def o35 (P : Params) : Obj := (@Obj.mk (@Value.type "tuple") none (@Data.seq (.mk [(@Value.ref (nat_lit 31))]) (nat_lit 0)) (.mk []))
def o36 (P : Params) : Obj := (@Obj.mk (@Value.type "builtin_function_or_method") none (@Data.fields (.mk [(@Value.builtin "type.__prepare__"), (@Value.type "type")])) (.mk []))
def o37 (P : Params) : Obj := (@Obj.mk (@Value.type "dict") none (@Data.dict (.mk [(@DictEntry.mk (@PyData.keyHash P (@Str.ofString "__module__")) (@Value.str (@Str.ofString "__module__") (nat_lit 221)) (@Value.str (@Str.ofString "menuhouses.errors") (nat_lit 194))), (@DictEntry.mk (@PyData.keyHash P (@Str.ofString "__qualname__")) (@Value.str (@Str.ofString "__qualname__") (nat_lit 223)) (@Value.str (@Str.ofString "InvalidText") (nat_lit 222))), (@DictEntry.mk (@PyData.keyHash P (@Str.ofString "__firstlineno__")) (@Value.str (@Str.ofString "__firstlineno__") (nat_lit 225)) (@Value.int (.ofNat (nat_lit 7)) (nat_lit 224))), (@DictEntry.mk (@PyData.keyHash P (@Str.ofString "__init__")) (@Value.str (@Str.ofString "__init__") (nat_lit 233)) (@Value.ref (nat_lit 48))), (@DictEntry.mk (@PyData.keyHash P (@Str.ofString "__static_attributes__")) (@Value.str (@Str.ofString "__static_attributes__") (nat_lit 235)) (@Value.ref (nat_lit 49)))]) (nat_lit 5)) (.mk []))
def o38 (P : Params) : Obj := (@Obj.mk (@Value.type "tuple") none (@Data.seq (.mk []) (nat_lit 0)) (.mk []))
def o39 (P : Params) : Obj := (@Obj.mk Value.none none (@Data.fields (.mk [(@Value.int (.ofNat (nat_lit 9)) (nat_lit 0)), (@Value.int (.ofNat (nat_lit 4)) (nat_lit 0)), (@Value.ref (nat_lit 47))])) (.mk []))
def o40 (P : Params) : Obj := (@Obj.mk (@Value.type "code") none (@Data.fields (.mk [(@Value.str (@Str.ofString "InvalidText") (nat_lit 216)), (@Value.str (@Str.ofString "InvalidText") (nat_lit 217)), (@Value.str (@Str.ofString "/claim/cut.py") (nat_lit 218)), (@Value.int (.ofNat (nat_lit 7)) (nat_lit 0)), (@Value.int (.ofNat (nat_lit 0)) (nat_lit 0)), (@Value.int (.ofNat (nat_lit 0)) (nat_lit 0)), (@Value.int (.ofNat (nat_lit 0)) (nat_lit 0)), (@Value.int (.ofNat (nat_lit 0)) (nat_lit 0)), (@Value.ref (nat_lit 38)), (@Value.bool false), (@Value.int (.ofNat (nat_lit 181)) (nat_lit 0)), (@Value.ref (nat_lit 39)), Value.none, Value.none, Value.none, Value.none, (@Value.int (.ofNat (nat_lit 219)) (nat_lit 0)), (@Value.int (.ofNat (nat_lit 7)) (nat_lit 0)), (@Value.str (@Str.ofString "/claim/cut.py") (nat_lit 220))])) (.mk []))
def o41 (P : Params) : Obj := (@Obj.mk (@Value.type "frame") none Data.plain (.mk [(some (@Value.ref (nat_lit 40))), (some (@Value.ref (nat_lit 3))), (some (@Value.ref (nat_lit 37))), none, (some (@Value.str (@Str.ofString "menuhouses.errors") (nat_lit 194))), none, (some (@Value.ref (nat_lit 0)))]))
def o42 (P : Params) : Obj := (@Obj.mk (@Value.type "tuple") none (@Data.seq (.mk []) (nat_lit 0)) (.mk []))
def o43 (P : Params) : Obj := (@Obj.mk Value.none none (@Data.fields (.mk [])) (.mk []))
def o44 (P : Params) : Obj := (@Obj.mk (@Value.type "tuple") none (@Data.seq (.mk [(@Value.str (@Str.ofString "self") (nat_lit 229)), (@Value.str (@Str.ofString "given") (nat_lit 230))]) (nat_lit 0)) (.mk []))
def o45 (P : Params) : Obj := (@Obj.mk (@Value.type "tuple") none (@Data.seq (.mk []) (nat_lit 0)) (.mk []))
def o46 (P : Params) : Obj := (@Obj.mk Value.none none (@Data.func (@FuncData.mk (@Str.ofString "__init__") (@Str.ofString "InvalidText.__init__") (defArgs (inClass (topS 3) 0)) (@FuncBody.stmts (defBody (inClass (topS 3) 0))) (defScope (inClass (topS 11) 0)) (nat_lit 0) [] Value.none Value.none Value.none Value.none none Value.none Value.none (nat_lit 0))) (.mk []))
def o47 (P : Params) : Obj := (@Obj.mk (@Value.type "code") none (@Data.fields (.mk [(@Value.str (@Str.ofString "__init__") (nat_lit 226)), (@Value.str (@Str.ofString "InvalidText.__init__") (nat_lit 227)), (@Value.str (@Str.ofString "/claim/cut.py") (nat_lit 228)), (@Value.int (.ofNat (nat_lit 9)) (nat_lit 0)), (@Value.int (.ofNat (nat_lit 2)) (nat_lit 0)), (@Value.int (.ofNat (nat_lit 0)) (nat_lit 0)), (@Value.int (.ofNat (nat_lit 0)) (nat_lit 0)), (@Value.int (.ofNat (nat_lit 3)) (nat_lit 0)), (@Value.ref (nat_lit 42)), (@Value.bool true), (@Value.int (.ofNat (nat_lit 181)) (nat_lit 0)), (@Value.ref (nat_lit 43)), Value.none, (@Value.ref (nat_lit 44)), (@Value.ref (nat_lit 45)), (@Value.ref (nat_lit 46)), (@Value.int (.ofNat (nat_lit 231)) (nat_lit 0)), (@Value.int (.ofNat (nat_lit 9)) (nat_lit 0)), (@Value.str (@Str.ofString "/claim/cut.py") (nat_lit 232))])) (.mk []))
def o48 (P : Params) : Obj := (@Obj.mk (@Value.type "function") none (@Data.func (@FuncData.mk (@Str.ofString "__init__") (@Str.ofString "InvalidText.__init__") (defArgs (inClass (topS 3) 0)) (@FuncBody.stmts (defBody (inClass (topS 3) 0))) (defScope (inClass (topS 11) 0)) (nat_lit 3) [] Value.none Value.none Value.none (@Value.str (@Str.ofString "menuhouses.errors") (nat_lit 194)) none (@Value.ref (nat_lit 47)) Value.none (nat_lit 0))) (.mk []))
def o49 (P : Params) : Obj := (@Obj.mk (@Value.type "tuple") none (@Data.seq (.mk [(@Value.str (@Str.ofString "given") (nat_lit 234))]) (nat_lit 0)) (.mk []))
def o50 (P : Params) : Obj := (@Obj.mk (@Value.type "dict") none (@Data.dict (.mk [(@DictEntry.mk (@PyData.keyHash P (@Str.ofString "__module__")) (@Value.str (@Str.ofString "__module__") (nat_lit 221)) (@Value.str (@Str.ofString "menuhouses.errors") (nat_lit 194))), (@DictEntry.mk (@PyData.keyHash P (@Str.ofString "__firstlineno__")) (@Value.str (@Str.ofString "__firstlineno__") (nat_lit 225)) (@Value.int (.ofNat (nat_lit 7)) (nat_lit 224))), (@DictEntry.mk (@PyData.keyHash P (@Str.ofString "__init__")) (@Value.str (@Str.ofString "__init__") (nat_lit 233)) (@Value.ref (nat_lit 48))), (@DictEntry.mk (@PyData.keyHash P (@Str.ofString "__static_attributes__")) (@Value.str (@Str.ofString "__static_attributes__") (nat_lit 235)) (@Value.ref (nat_lit 49))), (@DictEntry.mk (@PyData.keyHash P (@Str.ofString "__doc__")) (@Value.str (@Str.ofString "__doc__") (nat_lit 236)) Value.none)]) (nat_lit 2)) (.mk []))
def o51 (P : Params) : Obj := (@Obj.mk (@Value.type "type") none (@Data.cls (@ClassData.mk (@Str.ofString "InvalidText") [(@Value.ref (nat_lit 31))] [(@Value.ref (nat_lit 51)), (@Value.ref (nat_lit 31)), (@Value.type "ValueError"), (@Value.type "Exception"), (@Value.type "BaseException"), (@Value.type "object")] (nat_lit 50) (@Str.ofString "InvalidText") true [] [] false none false)) (.mk [(some (@Value.ref (nat_lit 35))), none, (some (@Value.str (@Str.ofString "InvalidText") (nat_lit 214))), (some (@Value.str (@Str.ofString "InvalidText") (nat_lit 222))), (some (@Value.builtin "ValueError.__new__")), (some (@Value.bool true))]))
def o52 (P : Params) : Obj := (@Obj.mk (@Value.type "super") none (@Data.fields (.mk [(@Value.ref (nat_lit 51)), (@Value.ref (nat_lit 51)), (@Value.ref (nat_lit 51))])) (.mk []))
def o53 (P : Params) : Obj := (@Obj.mk (@Value.type "builtin_function_or_method") none (@Data.fields (.mk [(@Value.builtin "object.__init_subclass__"), (@Value.ref (nat_lit 51))])) (.mk []))
def o54 (P : Params) : Obj := (@Obj.mk (@Value.type "tuple") none (@Data.seq (.mk [(@Value.ref (nat_lit 31))]) (nat_lit 0)) (.mk []))
def o55 (P : Params) : Obj := (@Obj.mk (@Value.type "builtin_function_or_method") none (@Data.fields (.mk [(@Value.builtin "type.__prepare__"), (@Value.type "type")])) (.mk []))
def o56 (P : Params) : Obj := (@Obj.mk (@Value.type "dict") none (@Data.dict (.mk [(@DictEntry.mk (@PyData.keyHash P (@Str.ofString "__module__")) (@Value.str (@Str.ofString "__module__") (nat_lit 246)) (@Value.str (@Str.ofString "menuhouses.errors") (nat_lit 194))), (@DictEntry.mk (@PyData.keyHash P (@Str.ofString "__qualname__")) (@Value.str (@Str.ofString "__qualname__") (nat_lit 248)) (@Value.str (@Str.ofString "InvalidIndex") (nat_lit 247))), (@DictEntry.mk (@PyData.keyHash P (@Str.ofString "__firstlineno__")) (@Value.str (@Str.ofString "__firstlineno__") (nat_lit 250)) (@Value.int (.ofNat (nat_lit 11)) (nat_lit 249))), (@DictEntry.mk (@PyData.keyHash P (@Str.ofString "__init__")) (@Value.str (@Str.ofString "__init__") (nat_lit 258)) (@Value.ref (nat_lit 67))), (@DictEntry.mk (@PyData.keyHash P (@Str.ofString "__static_attributes__")) (@Value.str (@Str.ofString "__static_attributes__") (nat_lit 260)) (@Value.ref (nat_lit 68)))]) (nat_lit 5)) (.mk []))
def o57 (P : Params) : Obj := (@Obj.mk (@Value.type "tuple") none (@Data.seq (.mk []) (nat_lit 0)) (.mk []))
def o58 (P : Params) : Obj := (@Obj.mk Value.none none (@Data.fields (.mk [(@Value.int (.ofNat (nat_lit 13)) (nat_lit 0)), (@Value.int (.ofNat (nat_lit 4)) (nat_lit 0)), (@Value.ref (nat_lit 66))])) (.mk []))
def o59 (P : Params) : Obj := (@Obj.mk (@Value.type "code") none (@Data.fields (.mk [(@Value.str (@Str.ofString "InvalidIndex") (nat_lit 241)), (@Value.str (@Str.ofString "InvalidIndex") (nat_lit 242)), (@Value.str (@Str.ofString "/claim/cut.py") (nat_lit 243)), (@Value.int (.ofNat (nat_lit 11)) (nat_lit 0)), (@Value.int (.ofNat (nat_lit 0)) (nat_lit 0)), (@Value.int (.ofNat (nat_lit 0)) (nat_lit 0)), (@Value.int (.ofNat (nat_lit 0)) (nat_lit 0)), (@Value.int (.ofNat (nat_lit 0)) (nat_lit 0)), (@Value.ref (nat_lit 57)), (@Value.bool false), (@Value.int (.ofNat (nat_lit 181)) (nat_lit 0)), (@Value.ref (nat_lit 58)), Value.none, Value.none, Value.none, Value.none, (@Value.int (.ofNat (nat_lit 244)) (nat_lit 0)), (@Value.int (.ofNat (nat_lit 11)) (nat_lit 0)), (@Value.str (@Str.ofString "/claim/cut.py") (nat_lit 245))])) (.mk []))
def o60 (P : Params) : Obj := (@Obj.mk (@Value.type "frame") none Data.plain (.mk [(some (@Value.ref (nat_lit 59))), (some (@Value.ref (nat_lit 3))), (some (@Value.ref (nat_lit 56))), none, (some (@Value.str (@Str.ofString "menuhouses.errors") (nat_lit 194))), none, (some (@Value.ref (nat_lit 0)))]))
def o61 (P : Params) : Obj := (@Obj.mk (@Value.type "tuple") none (@Data.seq (.mk []) (nat_lit 0)) (.mk []))
def o62 (P : Params) : Obj := (@Obj.mk Value.none none (@Data.fields (.mk [])) (.mk []))
def o63 (P : Params) : Obj := (@Obj.mk (@Value.type "tuple") none (@Data.seq (.mk [(@Value.str (@Str.ofString "self") (nat_lit 254)), (@Value.str (@Str.ofString "given") (nat_lit 255))]) (nat_lit 0)) (.mk []))
def o64 (P : Params) : Obj := (@Obj.mk (@Value.type "tuple") none (@Data.seq (.mk []) (nat_lit 0)) (.mk []))
def o65 (P : Params) : Obj := (@Obj.mk Value.none none (@Data.func (@FuncData.mk (@Str.ofString "__init__") (@Str.ofString "InvalidIndex.__init__") (defArgs (inClass (topS 4) 0)) (@FuncBody.stmts (defBody (inClass (topS 4) 0))) (defScope (inClass (topS 11) 0)) (nat_lit 0) [] Value.none Value.none Value.none Value.none none Value.none Value.none (nat_lit 0))) (.mk []))
def o66 (P : Params) : Obj := (@Obj.mk (@Value.type "code") none (@Data.fields (.mk [(@Value.str (@Str.ofString "__init__") (nat_lit 251)), (@Value.str (@Str.ofString "InvalidIndex.__init__") (nat_lit 252)), (@Value.str (@Str.ofString "/claim/cut.py") (nat_lit 253)), (@Value.int (.ofNat (nat_lit 13)) (nat_lit 0)), (@Value.int (.ofNat (nat_lit 2)) (nat_lit 0)), (@Value.int (.ofNat (nat_lit 0)) (nat_lit 0)), (@Value.int (.ofNat (nat_lit 0)) (nat_lit 0)), (@Value.int (.ofNat (nat_lit 3)) (nat_lit 0)), (@Value.ref (nat_lit 61)), (@Value.bool true), (@Value.int (.ofNat (nat_lit 181)) (nat_lit 0)), (@Value.ref (nat_lit 62)), Value.none, (@Value.ref (nat_lit 63)), (@Value.ref (nat_lit 64)), (@Value.ref (nat_lit 65)), (@Value.int (.ofNat (nat_lit 256)) (nat_lit 0)), (@Value.int (.ofNat (nat_lit 13)) (nat_lit 0)), (@Value.str (@Str.ofString "/claim/cut.py") (nat_lit 257))])) (.mk []))
def o67 (P : Params) : Obj := (@Obj.mk (@Value.type "function") none (@Data.func (@FuncData.mk (@Str.ofString "__init__") (@Str.ofString "InvalidIndex.__init__") (defArgs (inClass (topS 4) 0)) (@FuncBody.stmts (defBody (inClass (topS 4) 0))) (defScope (inClass (topS 11) 0)) (nat_lit 3) [] Value.none Value.none Value.none (@Value.str (@Str.ofString "menuhouses.errors") (nat_lit 194)) none (@Value.ref (nat_lit 66)) Value.none (nat_lit 0))) (.mk []))
def o68 (P : Params) : Obj := (@Obj.mk (@Value.type "tuple") none (@Data.seq (.mk [(@Value.str (@Str.ofString "given") (nat_lit 259))]) (nat_lit 0)) (.mk []))
def o69 (P : Params) : Obj := (@Obj.mk (@Value.type "dict") none (@Data.dict (.mk [(@DictEntry.mk (@PyData.keyHash P (@Str.ofString "__module__")) (@Value.str (@Str.ofString "__module__") (nat_lit 246)) (@Value.str (@Str.ofString "menuhouses.errors") (nat_lit 194))), (@DictEntry.mk (@PyData.keyHash P (@Str.ofString "__firstlineno__")) (@Value.str (@Str.ofString "__firstlineno__") (nat_lit 250)) (@Value.int (.ofNat (nat_lit 11)) (nat_lit 249))), (@DictEntry.mk (@PyData.keyHash P (@Str.ofString "__init__")) (@Value.str (@Str.ofString "__init__") (nat_lit 258)) (@Value.ref (nat_lit 67))), (@DictEntry.mk (@PyData.keyHash P (@Str.ofString "__static_attributes__")) (@Value.str (@Str.ofString "__static_attributes__") (nat_lit 260)) (@Value.ref (nat_lit 68))), (@DictEntry.mk (@PyData.keyHash P (@Str.ofString "__doc__")) (@Value.str (@Str.ofString "__doc__") (nat_lit 261)) Value.none)]) (nat_lit 2)) (.mk []))
def o70 (P : Params) : Obj := (@Obj.mk (@Value.type "type") none (@Data.cls (@ClassData.mk (@Str.ofString "InvalidIndex") [(@Value.ref (nat_lit 31))] [(@Value.ref (nat_lit 70)), (@Value.ref (nat_lit 31)), (@Value.type "ValueError"), (@Value.type "Exception"), (@Value.type "BaseException"), (@Value.type "object")] (nat_lit 69) (@Str.ofString "InvalidIndex") true [] [] false none false)) (.mk [(some (@Value.ref (nat_lit 54))), none, (some (@Value.str (@Str.ofString "InvalidIndex") (nat_lit 239))), (some (@Value.str (@Str.ofString "InvalidIndex") (nat_lit 247))), (some (@Value.builtin "ValueError.__new__")), (some (@Value.bool true))]))
def o71 (P : Params) : Obj := (@Obj.mk (@Value.type "super") none (@Data.fields (.mk [(@Value.ref (nat_lit 70)), (@Value.ref (nat_lit 70)), (@Value.ref (nat_lit 70))])) (.mk []))
def o72 (P : Params) : Obj := (@Obj.mk (@Value.type "builtin_function_or_method") none (@Data.fields (.mk [(@Value.builtin "object.__init_subclass__"), (@Value.ref (nat_lit 70))])) (.mk []))
def o73 (P : Params) : Obj := (@Obj.mk (@Value.type "tuple") none (@Data.seq (.mk [(@Value.ref (nat_lit 31))]) (nat_lit 0)) (.mk []))
def o74 (P : Params) : Obj := (@Obj.mk (@Value.type "builtin_function_or_method") none (@Data.fields (.mk [(@Value.builtin "type.__prepare__"), (@Value.type "type")])) (.mk []))
def o75 (P : Params) : Obj := (@Obj.mk (@Value.type "dict") none (@Data.dict (.mk [(@DictEntry.mk (@PyData.keyHash P (@Str.ofString "__module__")) (@Value.str (@Str.ofString "__module__") (nat_lit 271)) (@Value.str (@Str.ofString "menuhouses.errors") (nat_lit 194))), (@DictEntry.mk (@PyData.keyHash P (@Str.ofString "__qualname__")) (@Value.str (@Str.ofString "__qualname__") (nat_lit 273)) (@Value.str (@Str.ofString "NotAHouse") (nat_lit 272))), (@DictEntry.mk (@PyData.keyHash P (@Str.ofString "__firstlineno__")) (@Value.str (@Str.ofString "__firstlineno__") (nat_lit 275)) (@Value.int (.ofNat (nat_lit 15)) (nat_lit 274))), (@DictEntry.mk (@PyData.keyHash P (@Str.ofString "__init__")) (@Value.str (@Str.ofString "__init__") (nat_lit 283)) (@Value.ref (nat_lit 86))), (@DictEntry.mk (@PyData.keyHash P (@Str.ofString "__static_attributes__")) (@Value.str (@Str.ofString "__static_attributes__") (nat_lit 285)) (@Value.ref (nat_lit 87)))]) (nat_lit 5)) (.mk []))
def o76 (P : Params) : Obj := (@Obj.mk (@Value.type "tuple") none (@Data.seq (.mk []) (nat_lit 0)) (.mk []))
def o77 (P : Params) : Obj := (@Obj.mk Value.none none (@Data.fields (.mk [(@Value.int (.ofNat (nat_lit 17)) (nat_lit 0)), (@Value.int (.ofNat (nat_lit 4)) (nat_lit 0)), (@Value.ref (nat_lit 85))])) (.mk []))
def o78 (P : Params) : Obj := (@Obj.mk (@Value.type "code") none (@Data.fields (.mk [(@Value.str (@Str.ofString "NotAHouse") (nat_lit 266)), (@Value.str (@Str.ofString "NotAHouse") (nat_lit 267)), (@Value.str (@Str.ofString "/claim/cut.py") (nat_lit 268)), (@Value.int (.ofNat (nat_lit 15)) (nat_lit 0)), (@Value.int (.ofNat (nat_lit 0)) (nat_lit 0)), (@Value.int (.ofNat (nat_lit 0)) (nat_lit 0)), (@Value.int (.ofNat (nat_lit 0)) (nat_lit 0)), (@Value.int (.ofNat (nat_lit 0)) (nat_lit 0)), (@Value.ref (nat_lit 76)), (@Value.bool false), (@Value.int (.ofNat (nat_lit 181)) (nat_lit 0)), (@Value.ref (nat_lit 77)), Value.none, Value.none, Value.none, Value.none, (@Value.int (.ofNat (nat_lit 269)) (nat_lit 0)), (@Value.int (.ofNat (nat_lit 15)) (nat_lit 0)), (@Value.str (@Str.ofString "/claim/cut.py") (nat_lit 270))])) (.mk []))
def o79 (P : Params) : Obj := (@Obj.mk (@Value.type "frame") none Data.plain (.mk [(some (@Value.ref (nat_lit 78))), (some (@Value.ref (nat_lit 3))), (some (@Value.ref (nat_lit 75))), none, (some (@Value.str (@Str.ofString "menuhouses.errors") (nat_lit 194))), none, (some (@Value.ref (nat_lit 0)))]))
def o80 (P : Params) : Obj := (@Obj.mk (@Value.type "tuple") none (@Data.seq (.mk []) (nat_lit 0)) (.mk []))
def o81 (P : Params) : Obj := (@Obj.mk Value.none none (@Data.fields (.mk [])) (.mk []))
def o82 (P : Params) : Obj := (@Obj.mk (@Value.type "tuple") none (@Data.seq (.mk [(@Value.str (@Str.ofString "self") (nat_lit 279)), (@Value.str (@Str.ofString "given") (nat_lit 280))]) (nat_lit 0)) (.mk []))
def o83 (P : Params) : Obj := (@Obj.mk (@Value.type "tuple") none (@Data.seq (.mk []) (nat_lit 0)) (.mk []))
def o84 (P : Params) : Obj := (@Obj.mk Value.none none (@Data.func (@FuncData.mk (@Str.ofString "__init__") (@Str.ofString "NotAHouse.__init__") (defArgs (inClass (topS 5) 0)) (@FuncBody.stmts (defBody (inClass (topS 5) 0))) (defScope (inClass (topS 11) 0)) (nat_lit 0) [] Value.none Value.none Value.none Value.none none Value.none Value.none (nat_lit 0))) (.mk []))
def o85 (P : Params) : Obj := (@Obj.mk (@Value.type "code") none (@Data.fields (.mk [(@Value.str (@Str.ofString "__init__") (nat_lit 276)), (@Value.str (@Str.ofString "NotAHouse.__init__") (nat_lit 277)), (@Value.str (@Str.ofString "/claim/cut.py") (nat_lit 278)), (@Value.int (.ofNat (nat_lit 17)) (nat_lit 0)), (@Value.int (.ofNat (nat_lit 2)) (nat_lit 0)), (@Value.int (.ofNat (nat_lit 0)) (nat_lit 0)), (@Value.int (.ofNat (nat_lit 0)) (nat_lit 0)), (@Value.int (.ofNat (nat_lit 3)) (nat_lit 0)), (@Value.ref (nat_lit 80)), (@Value.bool true), (@Value.int (.ofNat (nat_lit 181)) (nat_lit 0)), (@Value.ref (nat_lit 81)), Value.none, (@Value.ref (nat_lit 82)), (@Value.ref (nat_lit 83)), (@Value.ref (nat_lit 84)), (@Value.int (.ofNat (nat_lit 281)) (nat_lit 0)), (@Value.int (.ofNat (nat_lit 17)) (nat_lit 0)), (@Value.str (@Str.ofString "/claim/cut.py") (nat_lit 282))])) (.mk []))
def o86 (P : Params) : Obj := (@Obj.mk (@Value.type "function") none (@Data.func (@FuncData.mk (@Str.ofString "__init__") (@Str.ofString "NotAHouse.__init__") (defArgs (inClass (topS 5) 0)) (@FuncBody.stmts (defBody (inClass (topS 5) 0))) (defScope (inClass (topS 11) 0)) (nat_lit 3) [] Value.none Value.none Value.none (@Value.str (@Str.ofString "menuhouses.errors") (nat_lit 194)) none (@Value.ref (nat_lit 85)) Value.none (nat_lit 0))) (.mk []))
def o87 (P : Params) : Obj := (@Obj.mk (@Value.type "tuple") none (@Data.seq (.mk [(@Value.str (@Str.ofString "given") (nat_lit 284))]) (nat_lit 0)) (.mk []))
def o88 (P : Params) : Obj := (@Obj.mk (@Value.type "dict") none (@Data.dict (.mk [(@DictEntry.mk (@PyData.keyHash P (@Str.ofString "__module__")) (@Value.str (@Str.ofString "__module__") (nat_lit 271)) (@Value.str (@Str.ofString "menuhouses.errors") (nat_lit 194))), (@DictEntry.mk (@PyData.keyHash P (@Str.ofString "__firstlineno__")) (@Value.str (@Str.ofString "__firstlineno__") (nat_lit 275)) (@Value.int (.ofNat (nat_lit 15)) (nat_lit 274))), (@DictEntry.mk (@PyData.keyHash P (@Str.ofString "__init__")) (@Value.str (@Str.ofString "__init__") (nat_lit 283)) (@Value.ref (nat_lit 86))), (@DictEntry.mk (@PyData.keyHash P (@Str.ofString "__static_attributes__")) (@Value.str (@Str.ofString "__static_attributes__") (nat_lit 285)) (@Value.ref (nat_lit 87))), (@DictEntry.mk (@PyData.keyHash P (@Str.ofString "__doc__")) (@Value.str (@Str.ofString "__doc__") (nat_lit 286)) Value.none)]) (nat_lit 2)) (.mk []))
def o89 (P : Params) : Obj := (@Obj.mk (@Value.type "type") none (@Data.cls (@ClassData.mk (@Str.ofString "NotAHouse") [(@Value.ref (nat_lit 31))] [(@Value.ref (nat_lit 89)), (@Value.ref (nat_lit 31)), (@Value.type "ValueError"), (@Value.type "Exception"), (@Value.type "BaseException"), (@Value.type "object")] (nat_lit 88) (@Str.ofString "NotAHouse") true [] [] false none false)) (.mk [(some (@Value.ref (nat_lit 73))), none, (some (@Value.str (@Str.ofString "NotAHouse") (nat_lit 264))), (some (@Value.str (@Str.ofString "NotAHouse") (nat_lit 272))), (some (@Value.builtin "ValueError.__new__")), (some (@Value.bool true))]))
def o90 (P : Params) : Obj := (@Obj.mk (@Value.type "super") none (@Data.fields (.mk [(@Value.ref (nat_lit 89)), (@Value.ref (nat_lit 89)), (@Value.ref (nat_lit 89))])) (.mk []))
def o91 (P : Params) : Obj := (@Obj.mk (@Value.type "builtin_function_or_method") none (@Data.fields (.mk [(@Value.builtin "object.__init_subclass__"), (@Value.ref (nat_lit 89))])) (.mk []))
def o92 (P : Params) : Obj := (@Obj.mk (@Value.type "tuple") none (@Data.seq (.mk [(@Value.ref (nat_lit 31))]) (nat_lit 0)) (.mk []))
def o93 (P : Params) : Obj := (@Obj.mk (@Value.type "builtin_function_or_method") none (@Data.fields (.mk [(@Value.builtin "type.__prepare__"), (@Value.type "type")])) (.mk []))
def o94 (P : Params) : Obj := (@Obj.mk (@Value.type "dict") none (@Data.dict (.mk [(@DictEntry.mk (@PyData.keyHash P (@Str.ofString "__module__")) (@Value.str (@Str.ofString "__module__") (nat_lit 296)) (@Value.str (@Str.ofString "menuhouses.errors") (nat_lit 194))), (@DictEntry.mk (@PyData.keyHash P (@Str.ofString "__qualname__")) (@Value.str (@Str.ofString "__qualname__") (nat_lit 298)) (@Value.str (@Str.ofString "OtherThings") (nat_lit 297))), (@DictEntry.mk (@PyData.keyHash P (@Str.ofString "__firstlineno__")) (@Value.str (@Str.ofString "__firstlineno__") (nat_lit 300)) (@Value.int (.ofNat (nat_lit 19)) (nat_lit 299))), (@DictEntry.mk (@PyData.keyHash P (@Str.ofString "__init__")) (@Value.str (@Str.ofString "__init__") (nat_lit 308)) (@Value.ref (nat_lit 105))), (@DictEntry.mk (@PyData.keyHash P (@Str.ofString "__static_attributes__")) (@Value.str (@Str.ofString "__static_attributes__") (nat_lit 310)) (@Value.ref (nat_lit 106)))]) (nat_lit 5)) (.mk []))
def o95 (P : Params) : Obj := (@Obj.mk (@Value.type "tuple") none (@Data.seq (.mk []) (nat_lit 0)) (.mk []))
def o96 (P : Params) : Obj := (@Obj.mk Value.none none (@Data.fields (.mk [(@Value.int (.ofNat (nat_lit 21)) (nat_lit 0)), (@Value.int (.ofNat (nat_lit 4)) (nat_lit 0)), (@Value.ref (nat_lit 104))])) (.mk []))
def o97 (P : Params) : Obj := (@Obj.mk (@Value.type "code") none (@Data.fields (.mk [(@Value.str (@Str.ofString "OtherThings") (nat_lit 291)), (@Value.str (@Str.ofString "OtherThings") (nat_lit 292)), (@Value.str (@Str.ofString "/claim/cut.py") (nat_lit 293)), (@Value.int (.ofNat (nat_lit 19)) (nat_lit 0)), (@Value.int (.ofNat (nat_lit 0)) (nat_lit 0)), (@Value.int (.ofNat (nat_lit 0)) (nat_lit 0)), (@Value.int (.ofNat (nat_lit 0)) (nat_lit 0)), (@Value.int (.ofNat (nat_lit 0)) (nat_lit 0)), (@Value.ref (nat_lit 95)), (@Value.bool false), (@Value.int (.ofNat (nat_lit 181)) (nat_lit 0)), (@Value.ref (nat_lit 96)), Value.none, Value.none, Value.none, Value.none, (@Value.int (.ofNat (nat_lit 294)) (nat_lit 0)), (@Value.int (.ofNat (nat_lit 19)) (nat_lit 0)), (@Value.str (@Str.ofString "/claim/cut.py") (nat_lit 295))])) (.mk []))
def o98 (P : Params) : Obj := (@Obj.mk (@Value.type "frame") none Data.plain (.mk [(some (@Value.ref (nat_lit 97))), (some (@Value.ref (nat_lit 3))), (some (@Value.ref (nat_lit 94))), none, (some (@Value.str (@Str.ofString "menuhouses.errors") (nat_lit 194))), none, (some (@Value.ref (nat_lit 0)))]))
def o99 (P : Params) : Obj := (@Obj.mk (@Value.type "tuple") none (@Data.seq (.mk []) (nat_lit 0)) (.mk []))
def o100 (P : Params) : Obj := (@Obj.mk Value.none none (@Data.fields (.mk [])) (.mk []))
def o101 (P : Params) : Obj := (@Obj.mk (@Value.type "tuple") none (@Data.seq (.mk [(@Value.str (@Str.ofString "self") (nat_lit 304)), (@Value.str (@Str.ofString "given") (nat_lit 305))]) (nat_lit 0)) (.mk []))
def o102 (P : Params) : Obj := (@Obj.mk (@Value.type "tuple") none (@Data.seq (.mk []) (nat_lit 0)) (.mk []))
def o103 (P : Params) : Obj := (@Obj.mk Value.none none (@Data.func (@FuncData.mk (@Str.ofString "__init__") (@Str.ofString "OtherThings.__init__") (defArgs (inClass (topS 6) 0)) (@FuncBody.stmts (defBody (inClass (topS 6) 0))) (defScope (inClass (topS 11) 0)) (nat_lit 0) [] Value.none Value.none Value.none Value.none none Value.none Value.none (nat_lit 0))) (.mk []))
def o104 (P : Params) : Obj := (@Obj.mk (@Value.type "code") none (@Data.fields (.mk [(@Value.str (@Str.ofString "__init__") (nat_lit 301)), (@Value.str (@Str.ofString "OtherThings.__init__") (nat_lit 302)), (@Value.str (@Str.ofString "/claim/cut.py") (nat_lit 303)), (@Value.int (.ofNat (nat_lit 21)) (nat_lit 0)), (@Value.int (.ofNat (nat_lit 2)) (nat_lit 0)), (@Value.int (.ofNat (nat_lit 0)) (nat_lit 0)), (@Value.int (.ofNat (nat_lit 0)) (nat_lit 0)), (@Value.int (.ofNat (nat_lit 3)) (nat_lit 0)), (@Value.ref (nat_lit 99)), (@Value.bool true), (@Value.int (.ofNat (nat_lit 181)) (nat_lit 0)), (@Value.ref (nat_lit 100)), Value.none, (@Value.ref (nat_lit 101)), (@Value.ref (nat_lit 102)), (@Value.ref (nat_lit 103)), (@Value.int (.ofNat (nat_lit 306)) (nat_lit 0)), (@Value.int (.ofNat (nat_lit 21)) (nat_lit 0)), (@Value.str (@Str.ofString "/claim/cut.py") (nat_lit 307))])) (.mk []))
def o105 (P : Params) : Obj := (@Obj.mk (@Value.type "function") none (@Data.func (@FuncData.mk (@Str.ofString "__init__") (@Str.ofString "OtherThings.__init__") (defArgs (inClass (topS 6) 0)) (@FuncBody.stmts (defBody (inClass (topS 6) 0))) (defScope (inClass (topS 11) 0)) (nat_lit 3) [] Value.none Value.none Value.none (@Value.str (@Str.ofString "menuhouses.errors") (nat_lit 194)) none (@Value.ref (nat_lit 104)) Value.none (nat_lit 0))) (.mk []))
def o106 (P : Params) : Obj := (@Obj.mk (@Value.type "tuple") none (@Data.seq (.mk [(@Value.str (@Str.ofString "given") (nat_lit 309))]) (nat_lit 0)) (.mk []))
def o107 (P : Params) : Obj := (@Obj.mk (@Value.type "dict") none (@Data.dict (.mk [(@DictEntry.mk (@PyData.keyHash P (@Str.ofString "__module__")) (@Value.str (@Str.ofString "__module__") (nat_lit 296)) (@Value.str (@Str.ofString "menuhouses.errors") (nat_lit 194))), (@DictEntry.mk (@PyData.keyHash P (@Str.ofString "__firstlineno__")) (@Value.str (@Str.ofString "__firstlineno__") (nat_lit 300)) (@Value.int (.ofNat (nat_lit 19)) (nat_lit 299))), (@DictEntry.mk (@PyData.keyHash P (@Str.ofString "__init__")) (@Value.str (@Str.ofString "__init__") (nat_lit 308)) (@Value.ref (nat_lit 105))), (@DictEntry.mk (@PyData.keyHash P (@Str.ofString "__static_attributes__")) (@Value.str (@Str.ofString "__static_attributes__") (nat_lit 310)) (@Value.ref (nat_lit 106))), (@DictEntry.mk (@PyData.keyHash P (@Str.ofString "__doc__")) (@Value.str (@Str.ofString "__doc__") (nat_lit 311)) Value.none)]) (nat_lit 2)) (.mk []))
def o108 (P : Params) : Obj := (@Obj.mk (@Value.type "type") none (@Data.cls (@ClassData.mk (@Str.ofString "OtherThings") [(@Value.ref (nat_lit 31))] [(@Value.ref (nat_lit 108)), (@Value.ref (nat_lit 31)), (@Value.type "ValueError"), (@Value.type "Exception"), (@Value.type "BaseException"), (@Value.type "object")] (nat_lit 107) (@Str.ofString "OtherThings") true [] [] false none false)) (.mk [(some (@Value.ref (nat_lit 92))), none, (some (@Value.str (@Str.ofString "OtherThings") (nat_lit 289))), (some (@Value.str (@Str.ofString "OtherThings") (nat_lit 297))), (some (@Value.builtin "ValueError.__new__")), (some (@Value.bool true))]))
def o109 (P : Params) : Obj := (@Obj.mk (@Value.type "super") none (@Data.fields (.mk [(@Value.ref (nat_lit 108)), (@Value.ref (nat_lit 108)), (@Value.ref (nat_lit 108))])) (.mk []))
def o110 (P : Params) : Obj := (@Obj.mk (@Value.type "builtin_function_or_method") none (@Data.fields (.mk [(@Value.builtin "object.__init_subclass__"), (@Value.ref (nat_lit 108))])) (.mk []))
def o3v1 (P : Params) : Obj := (@Obj.mk (@Value.type "dict") none (@Data.dict (.mk [(@DictEntry.mk (@PyData.keyHash P (@Str.ofString "__name__")) (@Value.str (@Str.ofString "__name__") (nat_lit 165)) (@Value.str (@Str.ofString "menuhouses.errors") (nat_lit 194))), (@DictEntry.mk (@PyData.keyHash P (@Str.ofString "__doc__")) (@Value.str (@Str.ofString "__doc__") (nat_lit 166)) Value.none), (@DictEntry.mk (@PyData.keyHash P (@Str.ofString "__package__")) (@Value.str (@Str.ofString "__package__") (nat_lit 167)) Value.none), (@DictEntry.mk (@PyData.keyHash P (@Str.ofString "__loader__")) (@Value.str (@Str.ofString "__loader__") (nat_lit 168)) (@Value.builtin "__main__.__loader__#opaque")), (@DictEntry.mk (@PyData.keyHash P (@Str.ofString "__spec__")) (@Value.str (@Str.ofString "__spec__") (nat_lit 169)) Value.none), (@DictEntry.mk (@PyData.keyHash P (@Str.ofString "__annotations__")) (@Value.str (@Str.ofString "__annotations__") (nat_lit 170)) (@Value.ref (nat_lit 6))), (@DictEntry.mk (@PyData.keyHash P (@Str.ofString "__builtins__")) (@Value.str (@Str.ofString "__builtins__") (nat_lit 171)) (@Value.ref (nat_lit 4))), (@DictEntry.mk (@PyData.keyHash P (@Str.ofString "__file__")) (@Value.str (@Str.ofString "__file__") (nat_lit 173)) (@Value.str (@Str.ofString "/claim/cut.py") (nat_lit 172))), (@DictEntry.mk (@PyData.keyHash P (@Str.ofString "__cached__")) (@Value.str (@Str.ofString "__cached__") (nat_lit 174)) Value.none), (@DictEntry.mk (@PyData.keyHash P (@Str.ofString "_wall")) (@Value.str (@Str.ofString "_wall") (nat_lit 193)) (@Value.ref (nat_lit 21))), (@DictEntry.mk (@PyData.keyHash P (@Str.ofString "WrongValue")) (@Value.str (@Str.ofString "WrongValue") (nat_lit 213)) (@Value.ref (nat_lit 31))), (@DictEntry.mk (@PyData.keyHash P (@Str.ofString "InvalidText")) (@Value.str (@Str.ofString "InvalidText") (nat_lit 238)) (@Value.ref (nat_lit 51))), (@DictEntry.mk (@PyData.keyHash P (@Str.ofString "InvalidIndex")) (@Value.str (@Str.ofString "InvalidIndex") (nat_lit 263)) (@Value.ref (nat_lit 70))), (@DictEntry.mk (@PyData.keyHash P (@Str.ofString "NotAHouse")) (@Value.str (@Str.ofString "NotAHouse") (nat_lit 288)) (@Value.ref (nat_lit 89))), (@DictEntry.mk (@PyData.keyHash P (@Str.ofString "OtherThings")) (@Value.str (@Str.ofString "OtherThings") (nat_lit 313)) (@Value.ref (nat_lit 108))), (@DictEntry.mk (@PyData.keyHash P (@Str.ofString "InvalidRow")) (@Value.str (@Str.ofString "InvalidRow") (nat_lit 338)) (@Value.ref (nat_lit 127))), (@DictEntry.mk (@PyData.keyHash P (@Str.ofString "InvalidMenu")) (@Value.str (@Str.ofString "InvalidMenu") (nat_lit 363)) (@Value.ref (nat_lit 146))), (@DictEntry.mk (@PyData.keyHash P (@Str.ofString "InvalidRankings")) (@Value.str (@Str.ofString "InvalidRankings") (nat_lit 388)) (@Value.ref (nat_lit 165))), (@DictEntry.mk (@PyData.keyHash P (@Str.ofString "WrongName")) (@Value.str (@Str.ofString "WrongName") (nat_lit 406)) (@Value.ref (nat_lit 177))), (@DictEntry.mk (@PyData.keyHash P (@Str.ofString "UnknownThing")) (@Value.str (@Str.ofString "UnknownThing") (nat_lit 431)) (@Value.ref (nat_lit 197)))]) (nat_lit 20)) (.mk []))
def o12v2 (P : Params) : Obj := (@Obj.mk Value.none none (@Data.fields (.mk [(@Value.int (.ofNat (nat_lit 1)) (nat_lit 0)), (@Value.int (.ofNat (nat_lit 0)) (nat_lit 0)), (@Value.ref (nat_lit 20)), (@Value.int (.ofNat (nat_lit 5)) (nat_lit 0)), (@Value.int (.ofNat (nat_lit 0)) (nat_lit 0)), (@Value.ref (nat_lit 27)), (@Value.int (.ofNat (nat_lit 7)) (nat_lit 0)), (@Value.int (.ofNat (nat_lit 0)) (nat_lit 0)), (@Value.ref (nat_lit 40)), (@Value.int (.ofNat (nat_lit 11)) (nat_lit 0)), (@Value.int (.ofNat (nat_lit 0)) (nat_lit 0)), (@Value.ref (nat_lit 59)), (@Value.int (.ofNat (nat_lit 15)) (nat_lit 0)), (@Value.int (.ofNat (nat_lit 0)) (nat_lit 0)), (@Value.ref (nat_lit 78)), (@Value.int (.ofNat (nat_lit 19)) (nat_lit 0)), (@Value.int (.ofNat (nat_lit 0)) (nat_lit 0)), (@Value.ref (nat_lit 97)), (@Value.int (.ofNat (nat_lit 23)) (nat_lit 0)), (@Value.int (.ofNat (nat_lit 0)) (nat_lit 0)), (@Value.ref (nat_lit 116)), (@Value.int (.ofNat (nat_lit 27)) (nat_lit 0)), (@Value.int (.ofNat (nat_lit 0)) (nat_lit 0)), (@Value.ref (nat_lit 135)), (@Value.int (.ofNat (nat_lit 31)) (nat_lit 0)), (@Value.int (.ofNat (nat_lit 0)) (nat_lit 0)), (@Value.ref (nat_lit 154)), (@Value.int (.ofNat (nat_lit 35)) (nat_lit 0)), (@Value.int (.ofNat (nat_lit 0)) (nat_lit 0)), (@Value.ref (nat_lit 173)), (@Value.int (.ofNat (nat_lit 37)) (nat_lit 0)), (@Value.int (.ofNat (nat_lit 0)) (nat_lit 0)), (@Value.ref (nat_lit 186))])) (.mk []))
def o31v1 (P : Params) : Obj := (@Obj.mk (@Value.type "type") none (@Data.cls (@ClassData.mk (@Str.ofString "WrongValue") [(@Value.type "ValueError")] [(@Value.ref (nat_lit 31)), (@Value.type "ValueError"), (@Value.type "Exception"), (@Value.type "BaseException"), (@Value.type "object")] (nat_lit 30) (@Str.ofString "WrongValue") true [] [(@Value.ref (nat_lit 51)), (@Value.ref (nat_lit 70)), (@Value.ref (nat_lit 89)), (@Value.ref (nat_lit 108)), (@Value.ref (nat_lit 127)), (@Value.ref (nat_lit 146)), (@Value.ref (nat_lit 165))] false none false)) (.mk [(some (@Value.ref (nat_lit 22))), none, (some (@Value.str (@Str.ofString "WrongValue") (nat_lit 196))), (some (@Value.str (@Str.ofString "WrongValue") (nat_lit 204))), (some (@Value.builtin "ValueError.__new__")), (some (@Value.bool true))]))
def o111 (P : Params) : Obj := (@Obj.mk (@Value.type "tuple") none (@Data.seq (.mk [(@Value.ref (nat_lit 31))]) (nat_lit 0)) (.mk []))
def o112 (P : Params) : Obj := (@Obj.mk (@Value.type "builtin_function_or_method") none (@Data.fields (.mk [(@Value.builtin "type.__prepare__"), (@Value.type "type")])) (.mk []))
def o113 (P : Params) : Obj := (@Obj.mk (@Value.type "dict") none (@Data.dict (.mk [(@DictEntry.mk (@PyData.keyHash P (@Str.ofString "__module__")) (@Value.str (@Str.ofString "__module__") (nat_lit 321)) (@Value.str (@Str.ofString "menuhouses.errors") (nat_lit 194))), (@DictEntry.mk (@PyData.keyHash P (@Str.ofString "__qualname__")) (@Value.str (@Str.ofString "__qualname__") (nat_lit 323)) (@Value.str (@Str.ofString "InvalidRow") (nat_lit 322))), (@DictEntry.mk (@PyData.keyHash P (@Str.ofString "__firstlineno__")) (@Value.str (@Str.ofString "__firstlineno__") (nat_lit 325)) (@Value.int (.ofNat (nat_lit 23)) (nat_lit 324))), (@DictEntry.mk (@PyData.keyHash P (@Str.ofString "__init__")) (@Value.str (@Str.ofString "__init__") (nat_lit 333)) (@Value.ref (nat_lit 124))), (@DictEntry.mk (@PyData.keyHash P (@Str.ofString "__static_attributes__")) (@Value.str (@Str.ofString "__static_attributes__") (nat_lit 335)) (@Value.ref (nat_lit 125)))]) (nat_lit 5)) (.mk []))
def o114 (P : Params) : Obj := (@Obj.mk (@Value.type "tuple") none (@Data.seq (.mk []) (nat_lit 0)) (.mk []))
def o115 (P : Params) : Obj := (@Obj.mk Value.none none (@Data.fields (.mk [(@Value.int (.ofNat (nat_lit 25)) (nat_lit 0)), (@Value.int (.ofNat (nat_lit 4)) (nat_lit 0)), (@Value.ref (nat_lit 123))])) (.mk []))
def o116 (P : Params) : Obj := (@Obj.mk (@Value.type "code") none (@Data.fields (.mk [(@Value.str (@Str.ofString "InvalidRow") (nat_lit 316)), (@Value.str (@Str.ofString "InvalidRow") (nat_lit 317)), (@Value.str (@Str.ofString "/claim/cut.py") (nat_lit 318)), (@Value.int (.ofNat (nat_lit 23)) (nat_lit 0)), (@Value.int (.ofNat (nat_lit 0)) (nat_lit 0)), (@Value.int (.ofNat (nat_lit 0)) (nat_lit 0)), (@Value.int (.ofNat (nat_lit 0)) (nat_lit 0)), (@Value.int (.ofNat (nat_lit 0)) (nat_lit 0)), (@Value.ref (nat_lit 114)), (@Value.bool false), (@Value.int (.ofNat (nat_lit 181)) (nat_lit 0)), (@Value.ref (nat_lit 115)), Value.none, Value.none, Value.none, Value.none, (@Value.int (.ofNat (nat_lit 319)) (nat_lit 0)), (@Value.int (.ofNat (nat_lit 23)) (nat_lit 0)), (@Value.str (@Str.ofString "/claim/cut.py") (nat_lit 320))])) (.mk []))
def o117 (P : Params) : Obj := (@Obj.mk (@Value.type "frame") none Data.plain (.mk [(some (@Value.ref (nat_lit 116))), (some (@Value.ref (nat_lit 3))), (some (@Value.ref (nat_lit 113))), none, (some (@Value.str (@Str.ofString "menuhouses.errors") (nat_lit 194))), none, (some (@Value.ref (nat_lit 0)))]))
def o118 (P : Params) : Obj := (@Obj.mk (@Value.type "tuple") none (@Data.seq (.mk []) (nat_lit 0)) (.mk []))
def o119 (P : Params) : Obj := (@Obj.mk Value.none none (@Data.fields (.mk [])) (.mk []))
def o120 (P : Params) : Obj := (@Obj.mk (@Value.type "tuple") none (@Data.seq (.mk [(@Value.str (@Str.ofString "self") (nat_lit 329)), (@Value.str (@Str.ofString "index") (nat_lit 330))]) (nat_lit 0)) (.mk []))
def o121 (P : Params) : Obj := (@Obj.mk (@Value.type "tuple") none (@Data.seq (.mk []) (nat_lit 0)) (.mk []))
def o122 (P : Params) : Obj := (@Obj.mk Value.none none (@Data.func (@FuncData.mk (@Str.ofString "__init__") (@Str.ofString "InvalidRow.__init__") (defArgs (inClass (topS 7) 0)) (@FuncBody.stmts (defBody (inClass (topS 7) 0))) (defScope (inClass (topS 9) 0)) (nat_lit 0) [] Value.none Value.none Value.none Value.none none Value.none Value.none (nat_lit 0))) (.mk []))
def o123 (P : Params) : Obj := (@Obj.mk (@Value.type "code") none (@Data.fields (.mk [(@Value.str (@Str.ofString "__init__") (nat_lit 326)), (@Value.str (@Str.ofString "InvalidRow.__init__") (nat_lit 327)), (@Value.str (@Str.ofString "/claim/cut.py") (nat_lit 328)), (@Value.int (.ofNat (nat_lit 25)) (nat_lit 0)), (@Value.int (.ofNat (nat_lit 2)) (nat_lit 0)), (@Value.int (.ofNat (nat_lit 0)) (nat_lit 0)), (@Value.int (.ofNat (nat_lit 0)) (nat_lit 0)), (@Value.int (.ofNat (nat_lit 3)) (nat_lit 0)), (@Value.ref (nat_lit 118)), (@Value.bool true), (@Value.int (.ofNat (nat_lit 181)) (nat_lit 0)), (@Value.ref (nat_lit 119)), Value.none, (@Value.ref (nat_lit 120)), (@Value.ref (nat_lit 121)), (@Value.ref (nat_lit 122)), (@Value.int (.ofNat (nat_lit 331)) (nat_lit 0)), (@Value.int (.ofNat (nat_lit 25)) (nat_lit 0)), (@Value.str (@Str.ofString "/claim/cut.py") (nat_lit 332))])) (.mk []))
def o124 (P : Params) : Obj := (@Obj.mk (@Value.type "function") none (@Data.func (@FuncData.mk (@Str.ofString "__init__") (@Str.ofString "InvalidRow.__init__") (defArgs (inClass (topS 7) 0)) (@FuncBody.stmts (defBody (inClass (topS 7) 0))) (defScope (inClass (topS 9) 0)) (nat_lit 3) [] Value.none Value.none Value.none (@Value.str (@Str.ofString "menuhouses.errors") (nat_lit 194)) none (@Value.ref (nat_lit 123)) Value.none (nat_lit 0))) (.mk []))
def o125 (P : Params) : Obj := (@Obj.mk (@Value.type "tuple") none (@Data.seq (.mk [(@Value.str (@Str.ofString "index") (nat_lit 334))]) (nat_lit 0)) (.mk []))
def o126 (P : Params) : Obj := (@Obj.mk (@Value.type "dict") none (@Data.dict (.mk [(@DictEntry.mk (@PyData.keyHash P (@Str.ofString "__module__")) (@Value.str (@Str.ofString "__module__") (nat_lit 321)) (@Value.str (@Str.ofString "menuhouses.errors") (nat_lit 194))), (@DictEntry.mk (@PyData.keyHash P (@Str.ofString "__firstlineno__")) (@Value.str (@Str.ofString "__firstlineno__") (nat_lit 325)) (@Value.int (.ofNat (nat_lit 23)) (nat_lit 324))), (@DictEntry.mk (@PyData.keyHash P (@Str.ofString "__init__")) (@Value.str (@Str.ofString "__init__") (nat_lit 333)) (@Value.ref (nat_lit 124))), (@DictEntry.mk (@PyData.keyHash P (@Str.ofString "__static_attributes__")) (@Value.str (@Str.ofString "__static_attributes__") (nat_lit 335)) (@Value.ref (nat_lit 125))), (@DictEntry.mk (@PyData.keyHash P (@Str.ofString "__doc__")) (@Value.str (@Str.ofString "__doc__") (nat_lit 336)) Value.none)]) (nat_lit 2)) (.mk []))
def o127 (P : Params) : Obj := (@Obj.mk (@Value.type "type") none (@Data.cls (@ClassData.mk (@Str.ofString "InvalidRow") [(@Value.ref (nat_lit 31))] [(@Value.ref (nat_lit 127)), (@Value.ref (nat_lit 31)), (@Value.type "ValueError"), (@Value.type "Exception"), (@Value.type "BaseException"), (@Value.type "object")] (nat_lit 126) (@Str.ofString "InvalidRow") true [] [] false none false)) (.mk [(some (@Value.ref (nat_lit 111))), none, (some (@Value.str (@Str.ofString "InvalidRow") (nat_lit 314))), (some (@Value.str (@Str.ofString "InvalidRow") (nat_lit 322))), (some (@Value.builtin "ValueError.__new__")), (some (@Value.bool true))]))
def o128 (P : Params) : Obj := (@Obj.mk (@Value.type "super") none (@Data.fields (.mk [(@Value.ref (nat_lit 127)), (@Value.ref (nat_lit 127)), (@Value.ref (nat_lit 127))])) (.mk []))
def o129 (P : Params) : Obj := (@Obj.mk (@Value.type "builtin_function_or_method") none (@Data.fields (.mk [(@Value.builtin "object.__init_subclass__"), (@Value.ref (nat_lit 127))])) (.mk []))
def o130 (P : Params) : Obj := (@Obj.mk (@Value.type "tuple") none (@Data.seq (.mk [(@Value.ref (nat_lit 31))]) (nat_lit 0)) (.mk []))
def o131 (P : Params) : Obj := (@Obj.mk (@Value.type "builtin_function_or_method") none (@Data.fields (.mk [(@Value.builtin "type.__prepare__"), (@Value.type "type")])) (.mk []))
def o132 (P : Params) : Obj := (@Obj.mk (@Value.type "dict") none (@Data.dict (.mk [(@DictEntry.mk (@PyData.keyHash P (@Str.ofString "__module__")) (@Value.str (@Str.ofString "__module__") (nat_lit 346)) (@Value.str (@Str.ofString "menuhouses.errors") (nat_lit 194))), (@DictEntry.mk (@PyData.keyHash P (@Str.ofString "__qualname__")) (@Value.str (@Str.ofString "__qualname__") (nat_lit 348)) (@Value.str (@Str.ofString "InvalidMenu") (nat_lit 347))), (@DictEntry.mk (@PyData.keyHash P (@Str.ofString "__firstlineno__")) (@Value.str (@Str.ofString "__firstlineno__") (nat_lit 350)) (@Value.int (.ofNat (nat_lit 27)) (nat_lit 349))), (@DictEntry.mk (@PyData.keyHash P (@Str.ofString "__init__")) (@Value.str (@Str.ofString "__init__") (nat_lit 358)) (@Value.ref (nat_lit 143))), (@DictEntry.mk (@PyData.keyHash P (@Str.ofString "__static_attributes__")) (@Value.str (@Str.ofString "__static_attributes__") (nat_lit 360)) (@Value.ref (nat_lit 144)))]) (nat_lit 5)) (.mk []))
def o133 (P : Params) : Obj := (@Obj.mk (@Value.type "tuple") none (@Data.seq (.mk []) (nat_lit 0)) (.mk []))
def o134 (P : Params) : Obj := (@Obj.mk Value.none none (@Data.fields (.mk [(@Value.int (.ofNat (nat_lit 29)) (nat_lit 0)), (@Value.int (.ofNat (nat_lit 4)) (nat_lit 0)), (@Value.ref (nat_lit 142))])) (.mk []))
def o135 (P : Params) : Obj := (@Obj.mk (@Value.type "code") none (@Data.fields (.mk [(@Value.str (@Str.ofString "InvalidMenu") (nat_lit 341)), (@Value.str (@Str.ofString "InvalidMenu") (nat_lit 342)), (@Value.str (@Str.ofString "/claim/cut.py") (nat_lit 343)), (@Value.int (.ofNat (nat_lit 27)) (nat_lit 0)), (@Value.int (.ofNat (nat_lit 0)) (nat_lit 0)), (@Value.int (.ofNat (nat_lit 0)) (nat_lit 0)), (@Value.int (.ofNat (nat_lit 0)) (nat_lit 0)), (@Value.int (.ofNat (nat_lit 0)) (nat_lit 0)), (@Value.ref (nat_lit 133)), (@Value.bool false), (@Value.int (.ofNat (nat_lit 181)) (nat_lit 0)), (@Value.ref (nat_lit 134)), Value.none, Value.none, Value.none, Value.none, (@Value.int (.ofNat (nat_lit 344)) (nat_lit 0)), (@Value.int (.ofNat (nat_lit 27)) (nat_lit 0)), (@Value.str (@Str.ofString "/claim/cut.py") (nat_lit 345))])) (.mk []))
def o136 (P : Params) : Obj := (@Obj.mk (@Value.type "frame") none Data.plain (.mk [(some (@Value.ref (nat_lit 135))), (some (@Value.ref (nat_lit 3))), (some (@Value.ref (nat_lit 132))), none, (some (@Value.str (@Str.ofString "menuhouses.errors") (nat_lit 194))), none, (some (@Value.ref (nat_lit 0)))]))
def o137 (P : Params) : Obj := (@Obj.mk (@Value.type "tuple") none (@Data.seq (.mk []) (nat_lit 0)) (.mk []))
def o138 (P : Params) : Obj := (@Obj.mk Value.none none (@Data.fields (.mk [])) (.mk []))
def o139 (P : Params) : Obj := (@Obj.mk (@Value.type "tuple") none (@Data.seq (.mk [(@Value.str (@Str.ofString "self") (nat_lit 354)), (@Value.str (@Str.ofString "index") (nat_lit 355))]) (nat_lit 0)) (.mk []))
def o140 (P : Params) : Obj := (@Obj.mk (@Value.type "tuple") none (@Data.seq (.mk []) (nat_lit 0)) (.mk []))
def o141 (P : Params) : Obj := (@Obj.mk Value.none none (@Data.func (@FuncData.mk (@Str.ofString "__init__") (@Str.ofString "InvalidMenu.__init__") (defArgs (inClass (topS 8) 0)) (@FuncBody.stmts (defBody (inClass (topS 8) 0))) (defScope (inClass (topS 9) 0)) (nat_lit 0) [] Value.none Value.none Value.none Value.none none Value.none Value.none (nat_lit 0))) (.mk []))
def o142 (P : Params) : Obj := (@Obj.mk (@Value.type "code") none (@Data.fields (.mk [(@Value.str (@Str.ofString "__init__") (nat_lit 351)), (@Value.str (@Str.ofString "InvalidMenu.__init__") (nat_lit 352)), (@Value.str (@Str.ofString "/claim/cut.py") (nat_lit 353)), (@Value.int (.ofNat (nat_lit 29)) (nat_lit 0)), (@Value.int (.ofNat (nat_lit 2)) (nat_lit 0)), (@Value.int (.ofNat (nat_lit 0)) (nat_lit 0)), (@Value.int (.ofNat (nat_lit 0)) (nat_lit 0)), (@Value.int (.ofNat (nat_lit 3)) (nat_lit 0)), (@Value.ref (nat_lit 137)), (@Value.bool true), (@Value.int (.ofNat (nat_lit 181)) (nat_lit 0)), (@Value.ref (nat_lit 138)), Value.none, (@Value.ref (nat_lit 139)), (@Value.ref (nat_lit 140)), (@Value.ref (nat_lit 141)), (@Value.int (.ofNat (nat_lit 356)) (nat_lit 0)), (@Value.int (.ofNat (nat_lit 29)) (nat_lit 0)), (@Value.str (@Str.ofString "/claim/cut.py") (nat_lit 357))])) (.mk []))
def o143 (P : Params) : Obj := (@Obj.mk (@Value.type "function") none (@Data.func (@FuncData.mk (@Str.ofString "__init__") (@Str.ofString "InvalidMenu.__init__") (defArgs (inClass (topS 8) 0)) (@FuncBody.stmts (defBody (inClass (topS 8) 0))) (defScope (inClass (topS 9) 0)) (nat_lit 3) [] Value.none Value.none Value.none (@Value.str (@Str.ofString "menuhouses.errors") (nat_lit 194)) none (@Value.ref (nat_lit 142)) Value.none (nat_lit 0))) (.mk []))
def o144 (P : Params) : Obj := (@Obj.mk (@Value.type "tuple") none (@Data.seq (.mk [(@Value.str (@Str.ofString "index") (nat_lit 359))]) (nat_lit 0)) (.mk []))
def o145 (P : Params) : Obj := (@Obj.mk (@Value.type "dict") none (@Data.dict (.mk [(@DictEntry.mk (@PyData.keyHash P (@Str.ofString "__module__")) (@Value.str (@Str.ofString "__module__") (nat_lit 346)) (@Value.str (@Str.ofString "menuhouses.errors") (nat_lit 194))), (@DictEntry.mk (@PyData.keyHash P (@Str.ofString "__firstlineno__")) (@Value.str (@Str.ofString "__firstlineno__") (nat_lit 350)) (@Value.int (.ofNat (nat_lit 27)) (nat_lit 349))), (@DictEntry.mk (@PyData.keyHash P (@Str.ofString "__init__")) (@Value.str (@Str.ofString "__init__") (nat_lit 358)) (@Value.ref (nat_lit 143))), (@DictEntry.mk (@PyData.keyHash P (@Str.ofString "__static_attributes__")) (@Value.str (@Str.ofString "__static_attributes__") (nat_lit 360)) (@Value.ref (nat_lit 144))), (@DictEntry.mk (@PyData.keyHash P (@Str.ofString "__doc__")) (@Value.str (@Str.ofString "__doc__") (nat_lit 361)) Value.none)]) (nat_lit 2)) (.mk []))
def o146 (P : Params) : Obj := (@Obj.mk (@Value.type "type") none (@Data.cls (@ClassData.mk (@Str.ofString "InvalidMenu") [(@Value.ref (nat_lit 31))] [(@Value.ref (nat_lit 146)), (@Value.ref (nat_lit 31)), (@Value.type "ValueError"), (@Value.type "Exception"), (@Value.type "BaseException"), (@Value.type "object")] (nat_lit 145) (@Str.ofString "InvalidMenu") true [] [] false none false)) (.mk [(some (@Value.ref (nat_lit 130))), none, (some (@Value.str (@Str.ofString "InvalidMenu") (nat_lit 339))), (some (@Value.str (@Str.ofString "InvalidMenu") (nat_lit 347))), (some (@Value.builtin "ValueError.__new__")), (some (@Value.bool true))]))
def o147 (P : Params) : Obj := (@Obj.mk (@Value.type "super") none (@Data.fields (.mk [(@Value.ref (nat_lit 146)), (@Value.ref (nat_lit 146)), (@Value.ref (nat_lit 146))])) (.mk []))
def o148 (P : Params) : Obj := (@Obj.mk (@Value.type "builtin_function_or_method") none (@Data.fields (.mk [(@Value.builtin "object.__init_subclass__"), (@Value.ref (nat_lit 146))])) (.mk []))
def o149 (P : Params) : Obj := (@Obj.mk (@Value.type "tuple") none (@Data.seq (.mk [(@Value.ref (nat_lit 31))]) (nat_lit 0)) (.mk []))
def o150 (P : Params) : Obj := (@Obj.mk (@Value.type "builtin_function_or_method") none (@Data.fields (.mk [(@Value.builtin "type.__prepare__"), (@Value.type "type")])) (.mk []))
def o151 (P : Params) : Obj := (@Obj.mk (@Value.type "dict") none (@Data.dict (.mk [(@DictEntry.mk (@PyData.keyHash P (@Str.ofString "__module__")) (@Value.str (@Str.ofString "__module__") (nat_lit 371)) (@Value.str (@Str.ofString "menuhouses.errors") (nat_lit 194))), (@DictEntry.mk (@PyData.keyHash P (@Str.ofString "__qualname__")) (@Value.str (@Str.ofString "__qualname__") (nat_lit 373)) (@Value.str (@Str.ofString "InvalidRankings") (nat_lit 372))), (@DictEntry.mk (@PyData.keyHash P (@Str.ofString "__firstlineno__")) (@Value.str (@Str.ofString "__firstlineno__") (nat_lit 375)) (@Value.int (.ofNat (nat_lit 31)) (nat_lit 374))), (@DictEntry.mk (@PyData.keyHash P (@Str.ofString "__init__")) (@Value.str (@Str.ofString "__init__") (nat_lit 383)) (@Value.ref (nat_lit 162))), (@DictEntry.mk (@PyData.keyHash P (@Str.ofString "__static_attributes__")) (@Value.str (@Str.ofString "__static_attributes__") (nat_lit 385)) (@Value.ref (nat_lit 163)))]) (nat_lit 5)) (.mk []))
def o152 (P : Params) : Obj := (@Obj.mk (@Value.type "tuple") none (@Data.seq (.mk []) (nat_lit 0)) (.mk []))
def o153 (P : Params) : Obj := (@Obj.mk Value.none none (@Data.fields (.mk [(@Value.int (.ofNat (nat_lit 33)) (nat_lit 0)), (@Value.int (.ofNat (nat_lit 4)) (nat_lit 0)), (@Value.ref (nat_lit 161))])) (.mk []))
def o154 (P : Params) : Obj := (@Obj.mk (@Value.type "code") none (@Data.fields (.mk [(@Value.str (@Str.ofString "InvalidRankings") (nat_lit 366)), (@Value.str (@Str.ofString "InvalidRankings") (nat_lit 367)), (@Value.str (@Str.ofString "/claim/cut.py") (nat_lit 368)), (@Value.int (.ofNat (nat_lit 31)) (nat_lit 0)), (@Value.int (.ofNat (nat_lit 0)) (nat_lit 0)), (@Value.int (.ofNat (nat_lit 0)) (nat_lit 0)), (@Value.int (.ofNat (nat_lit 0)) (nat_lit 0)), (@Value.int (.ofNat (nat_lit 0)) (nat_lit 0)), (@Value.ref (nat_lit 152)), (@Value.bool false), (@Value.int (.ofNat (nat_lit 181)) (nat_lit 0)), (@Value.ref (nat_lit 153)), Value.none, Value.none, Value.none, Value.none, (@Value.int (.ofNat (nat_lit 369)) (nat_lit 0)), (@Value.int (.ofNat (nat_lit 31)) (nat_lit 0)), (@Value.str (@Str.ofString "/claim/cut.py") (nat_lit 370))])) (.mk []))
def o155 (P : Params) : Obj := (@Obj.mk (@Value.type "frame") none Data.plain (.mk [(some (@Value.ref (nat_lit 154))), (some (@Value.ref (nat_lit 3))), (some (@Value.ref (nat_lit 151))), none, (some (@Value.str (@Str.ofString "menuhouses.errors") (nat_lit 194))), none, (some (@Value.ref (nat_lit 0)))]))
def o156 (P : Params) : Obj := (@Obj.mk (@Value.type "tuple") none (@Data.seq (.mk []) (nat_lit 0)) (.mk []))
def o157 (P : Params) : Obj := (@Obj.mk Value.none none (@Data.fields (.mk [])) (.mk []))
def o158 (P : Params) : Obj := (@Obj.mk (@Value.type "tuple") none (@Data.seq (.mk [(@Value.str (@Str.ofString "self") (nat_lit 379)), (@Value.str (@Str.ofString "index") (nat_lit 380))]) (nat_lit 0)) (.mk []))
def o159 (P : Params) : Obj := (@Obj.mk (@Value.type "tuple") none (@Data.seq (.mk []) (nat_lit 0)) (.mk []))
def o160 (P : Params) : Obj := (@Obj.mk Value.none none (@Data.func (@FuncData.mk (@Str.ofString "__init__") (@Str.ofString "InvalidRankings.__init__") (defArgs (inClass (topS 9) 0)) (@FuncBody.stmts (defBody (inClass (topS 9) 0))) (defScope (inClass (topS 9) 0)) (nat_lit 0) [] Value.none Value.none Value.none Value.none none Value.none Value.none (nat_lit 0))) (.mk []))
def o161 (P : Params) : Obj := (@Obj.mk (@Value.type "code") none (@Data.fields (.mk [(@Value.str (@Str.ofString "__init__") (nat_lit 376)), (@Value.str (@Str.ofString "InvalidRankings.__init__") (nat_lit 377)), (@Value.str (@Str.ofString "/claim/cut.py") (nat_lit 378)), (@Value.int (.ofNat (nat_lit 33)) (nat_lit 0)), (@Value.int (.ofNat (nat_lit 2)) (nat_lit 0)), (@Value.int (.ofNat (nat_lit 0)) (nat_lit 0)), (@Value.int (.ofNat (nat_lit 0)) (nat_lit 0)), (@Value.int (.ofNat (nat_lit 3)) (nat_lit 0)), (@Value.ref (nat_lit 156)), (@Value.bool true), (@Value.int (.ofNat (nat_lit 181)) (nat_lit 0)), (@Value.ref (nat_lit 157)), Value.none, (@Value.ref (nat_lit 158)), (@Value.ref (nat_lit 159)), (@Value.ref (nat_lit 160)), (@Value.int (.ofNat (nat_lit 381)) (nat_lit 0)), (@Value.int (.ofNat (nat_lit 33)) (nat_lit 0)), (@Value.str (@Str.ofString "/claim/cut.py") (nat_lit 382))])) (.mk []))
def o162 (P : Params) : Obj := (@Obj.mk (@Value.type "function") none (@Data.func (@FuncData.mk (@Str.ofString "__init__") (@Str.ofString "InvalidRankings.__init__") (defArgs (inClass (topS 9) 0)) (@FuncBody.stmts (defBody (inClass (topS 9) 0))) (defScope (inClass (topS 9) 0)) (nat_lit 3) [] Value.none Value.none Value.none (@Value.str (@Str.ofString "menuhouses.errors") (nat_lit 194)) none (@Value.ref (nat_lit 161)) Value.none (nat_lit 0))) (.mk []))
def o163 (P : Params) : Obj := (@Obj.mk (@Value.type "tuple") none (@Data.seq (.mk [(@Value.str (@Str.ofString "index") (nat_lit 384))]) (nat_lit 0)) (.mk []))
def o164 (P : Params) : Obj := (@Obj.mk (@Value.type "dict") none (@Data.dict (.mk [(@DictEntry.mk (@PyData.keyHash P (@Str.ofString "__module__")) (@Value.str (@Str.ofString "__module__") (nat_lit 371)) (@Value.str (@Str.ofString "menuhouses.errors") (nat_lit 194))), (@DictEntry.mk (@PyData.keyHash P (@Str.ofString "__firstlineno__")) (@Value.str (@Str.ofString "__firstlineno__") (nat_lit 375)) (@Value.int (.ofNat (nat_lit 31)) (nat_lit 374))), (@DictEntry.mk (@PyData.keyHash P (@Str.ofString "__init__")) (@Value.str (@Str.ofString "__init__") (nat_lit 383)) (@Value.ref (nat_lit 162))), (@DictEntry.mk (@PyData.keyHash P (@Str.ofString "__static_attributes__")) (@Value.str (@Str.ofString "__static_attributes__") (nat_lit 385)) (@Value.ref (nat_lit 163))), (@DictEntry.mk (@PyData.keyHash P (@Str.ofString "__doc__")) (@Value.str (@Str.ofString "__doc__") (nat_lit 386)) Value.none)]) (nat_lit 2)) (.mk []))
def o165 (P : Params) : Obj := (@Obj.mk (@Value.type "type") none (@Data.cls (@ClassData.mk (@Str.ofString "InvalidRankings") [(@Value.ref (nat_lit 31))] [(@Value.ref (nat_lit 165)), (@Value.ref (nat_lit 31)), (@Value.type "ValueError"), (@Value.type "Exception"), (@Value.type "BaseException"), (@Value.type "object")] (nat_lit 164) (@Str.ofString "InvalidRankings") true [] [] false none false)) (.mk [(some (@Value.ref (nat_lit 149))), none, (some (@Value.str (@Str.ofString "InvalidRankings") (nat_lit 364))), (some (@Value.str (@Str.ofString "InvalidRankings") (nat_lit 372))), (some (@Value.builtin "ValueError.__new__")), (some (@Value.bool true))]))
def o166 (P : Params) : Obj := (@Obj.mk (@Value.type "super") none (@Data.fields (.mk [(@Value.ref (nat_lit 165)), (@Value.ref (nat_lit 165)), (@Value.ref (nat_lit 165))])) (.mk []))
def o167 (P : Params) : Obj := (@Obj.mk (@Value.type "builtin_function_or_method") none (@Data.fields (.mk [(@Value.builtin "object.__init_subclass__"), (@Value.ref (nat_lit 165))])) (.mk []))
def o168 (P : Params) : Obj := (@Obj.mk (@Value.type "tuple") none (@Data.seq (.mk [(@Value.type "LookupError")]) (nat_lit 0)) (.mk []))
def o169 (P : Params) : Obj := (@Obj.mk (@Value.type "builtin_function_or_method") none (@Data.fields (.mk [(@Value.builtin "type.__prepare__"), (@Value.type "type")])) (.mk []))
def o170 (P : Params) : Obj := (@Obj.mk (@Value.type "dict") none (@Data.dict (.mk [(@DictEntry.mk (@PyData.keyHash P (@Str.ofString "__module__")) (@Value.str (@Str.ofString "__module__") (nat_lit 396)) (@Value.str (@Str.ofString "menuhouses.errors") (nat_lit 194))), (@DictEntry.mk (@PyData.keyHash P (@Str.ofString "__qualname__")) (@Value.str (@Str.ofString "__qualname__") (nat_lit 398)) (@Value.str (@Str.ofString "WrongName") (nat_lit 397))), (@DictEntry.mk (@PyData.keyHash P (@Str.ofString "__firstlineno__")) (@Value.str (@Str.ofString "__firstlineno__") (nat_lit 400)) (@Value.int (.ofNat (nat_lit 35)) (nat_lit 399))), (@DictEntry.mk (@PyData.keyHash P (@Str.ofString "__static_attributes__")) (@Value.str (@Str.ofString "__static_attributes__") (nat_lit 401)) (@Value.ref (nat_lit 175)))]) (nat_lit 4)) (.mk []))
def o171 (P : Params) : Obj := (@Obj.mk (@Value.type "tuple") none (@Data.seq (.mk []) (nat_lit 0)) (.mk []))
def o172 (P : Params) : Obj := (@Obj.mk Value.none none (@Data.fields (.mk [])) (.mk []))
def o173 (P : Params) : Obj := (@Obj.mk (@Value.type "code") none (@Data.fields (.mk [(@Value.str (@Str.ofString "WrongName") (nat_lit 391)), (@Value.str (@Str.ofString "WrongName") (nat_lit 392)), (@Value.str (@Str.ofString "/claim/cut.py") (nat_lit 393)), (@Value.int (.ofNat (nat_lit 35)) (nat_lit 0)), (@Value.int (.ofNat (nat_lit 0)) (nat_lit 0)), (@Value.int (.ofNat (nat_lit 0)) (nat_lit 0)), (@Value.int (.ofNat (nat_lit 0)) (nat_lit 0)), (@Value.int (.ofNat (nat_lit 0)) (nat_lit 0)), (@Value.ref (nat_lit 171)), (@Value.bool false), (@Value.int (.ofNat (nat_lit 181)) (nat_lit 0)), (@Value.ref (nat_lit 172)), Value.none, Value.none, Value.none, Value.none, (@Value.int (.ofNat (nat_lit 394)) (nat_lit 0)), (@Value.int (.ofNat (nat_lit 35)) (nat_lit 0)), (@Value.str (@Str.ofString "/claim/cut.py") (nat_lit 395))])) (.mk []))
def o174 (P : Params) : Obj := (@Obj.mk (@Value.type "frame") none Data.plain (.mk [(some (@Value.ref (nat_lit 173))), (some (@Value.ref (nat_lit 3))), (some (@Value.ref (nat_lit 170))), none, (some (@Value.str (@Str.ofString "menuhouses.errors") (nat_lit 194))), none, (some (@Value.ref (nat_lit 0)))]))
def o175 (P : Params) : Obj := (@Obj.mk (@Value.type "tuple") none (@Data.seq (.mk []) (nat_lit 0)) (.mk []))
def o176 (P : Params) : Obj := (@Obj.mk (@Value.type "dict") none (@Data.dict (.mk [(@DictEntry.mk (@PyData.keyHash P (@Str.ofString "__module__")) (@Value.str (@Str.ofString "__module__") (nat_lit 396)) (@Value.str (@Str.ofString "menuhouses.errors") (nat_lit 194))), (@DictEntry.mk (@PyData.keyHash P (@Str.ofString "__firstlineno__")) (@Value.str (@Str.ofString "__firstlineno__") (nat_lit 400)) (@Value.int (.ofNat (nat_lit 35)) (nat_lit 399))), (@DictEntry.mk (@PyData.keyHash P (@Str.ofString "__static_attributes__")) (@Value.str (@Str.ofString "__static_attributes__") (nat_lit 401)) (@Value.ref (nat_lit 175))), (@DictEntry.mk (@PyData.keyHash P (@Str.ofString "__weakref__")) (@Value.str (@Str.ofString "__weakref__") (nat_lit 403)) (@Value.ref (nat_lit 178))), (@DictEntry.mk (@PyData.keyHash P (@Str.ofString "__doc__")) (@Value.str (@Str.ofString "__doc__") (nat_lit 404)) Value.none)]) (nat_lit 3)) (.mk []))
def o177 (P : Params) : Obj := (@Obj.mk (@Value.type "type") none (@Data.cls (@ClassData.mk (@Str.ofString "WrongName") [(@Value.type "LookupError")] [(@Value.ref (nat_lit 177)), (@Value.type "LookupError"), (@Value.type "Exception"), (@Value.type "BaseException"), (@Value.type "object")] (nat_lit 176) (@Str.ofString "WrongName") true [] [(@Value.ref (nat_lit 197))] false none false)) (.mk [(some (@Value.ref (nat_lit 168))), none, (some (@Value.str (@Str.ofString "WrongName") (nat_lit 389))), (some (@Value.str (@Str.ofString "WrongName") (nat_lit 397))), (some (@Value.builtin "LookupError.__new__")), (some (@Value.bool true))]))
def o178 (P : Params) : Obj := (@Obj.mk (@Value.type "getset_descriptor") none (@Data.fields (.mk [(@Value.str (@Str.ofString "__weakref__") (nat_lit 402)), (@Value.ref (nat_lit 177)), (@Value.builtin "ExceptionGroup.__weakref__"), Value.none])) (.mk []))
def o179 (P : Params) : Obj := (@Obj.mk (@Value.type "super") none (@Data.fields (.mk [(@Value.ref (nat_lit 177)), (@Value.ref (nat_lit 177)), (@Value.ref (nat_lit 177))])) (.mk []))
def o180 (P : Params) : Obj := (@Obj.mk (@Value.type "builtin_function_or_method") none (@Data.fields (.mk [(@Value.builtin "object.__init_subclass__"), (@Value.ref (nat_lit 177))])) (.mk []))
def o181 (P : Params) : Obj := (@Obj.mk (@Value.type "tuple") none (@Data.seq (.mk [(@Value.ref (nat_lit 177))]) (nat_lit 0)) (.mk []))
def o182 (P : Params) : Obj := (@Obj.mk (@Value.type "builtin_function_or_method") none (@Data.fields (.mk [(@Value.builtin "type.__prepare__"), (@Value.type "type")])) (.mk []))
def o183 (P : Params) : Obj := (@Obj.mk (@Value.type "dict") none (@Data.dict (.mk [(@DictEntry.mk (@PyData.keyHash P (@Str.ofString "__module__")) (@Value.str (@Str.ofString "__module__") (nat_lit 414)) (@Value.str (@Str.ofString "menuhouses.errors") (nat_lit 194))), (@DictEntry.mk (@PyData.keyHash P (@Str.ofString "__qualname__")) (@Value.str (@Str.ofString "__qualname__") (nat_lit 416)) (@Value.str (@Str.ofString "UnknownThing") (nat_lit 415))), (@DictEntry.mk (@PyData.keyHash P (@Str.ofString "__firstlineno__")) (@Value.str (@Str.ofString "__firstlineno__") (nat_lit 418)) (@Value.int (.ofNat (nat_lit 37)) (nat_lit 417))), (@DictEntry.mk (@PyData.keyHash P (@Str.ofString "__init__")) (@Value.str (@Str.ofString "__init__") (nat_lit 426)) (@Value.ref (nat_lit 194))), (@DictEntry.mk (@PyData.keyHash P (@Str.ofString "__static_attributes__")) (@Value.str (@Str.ofString "__static_attributes__") (nat_lit 428)) (@Value.ref (nat_lit 195)))]) (nat_lit 5)) (.mk []))
def o184 (P : Params) : Obj := (@Obj.mk (@Value.type "tuple") none (@Data.seq (.mk []) (nat_lit 0)) (.mk []))
def o185 (P : Params) : Obj := (@Obj.mk Value.none none (@Data.fields (.mk [(@Value.int (.ofNat (nat_lit 39)) (nat_lit 0)), (@Value.int (.ofNat (nat_lit 4)) (nat_lit 0)), (@Value.ref (nat_lit 193))])) (.mk []))
def o186 (P : Params) : Obj := (@Obj.mk (@Value.type "code") none (@Data.fields (.mk [(@Value.str (@Str.ofString "UnknownThing") (nat_lit 409)), (@Value.str (@Str.ofString "UnknownThing") (nat_lit 410)), (@Value.str (@Str.ofString "/claim/cut.py") (nat_lit 411)), (@Value.int (.ofNat (nat_lit 37)) (nat_lit 0)), (@Value.int (.ofNat (nat_lit 0)) (nat_lit 0)), (@Value.int (.ofNat (nat_lit 0)) (nat_lit 0)), (@Value.int (.ofNat (nat_lit 0)) (nat_lit 0)), (@Value.int (.ofNat (nat_lit 0)) (nat_lit 0)), (@Value.ref (nat_lit 184)), (@Value.bool false), (@Value.int (.ofNat (nat_lit 181)) (nat_lit 0)), (@Value.ref (nat_lit 185)), Value.none, Value.none, Value.none, Value.none, (@Value.int (.ofNat (nat_lit 412)) (nat_lit 0)), (@Value.int (.ofNat (nat_lit 37)) (nat_lit 0)), (@Value.str (@Str.ofString "/claim/cut.py") (nat_lit 413))])) (.mk []))
def o187 (P : Params) : Obj := (@Obj.mk (@Value.type "frame") none Data.plain (.mk [(some (@Value.ref (nat_lit 186))), (some (@Value.ref (nat_lit 3))), (some (@Value.ref (nat_lit 183))), none, (some (@Value.str (@Str.ofString "menuhouses.errors") (nat_lit 194))), none, (some (@Value.ref (nat_lit 0)))]))
def o188 (P : Params) : Obj := (@Obj.mk (@Value.type "tuple") none (@Data.seq (.mk []) (nat_lit 0)) (.mk []))
def o189 (P : Params) : Obj := (@Obj.mk Value.none none (@Data.fields (.mk [])) (.mk []))
def o190 (P : Params) : Obj := (@Obj.mk (@Value.type "tuple") none (@Data.seq (.mk [(@Value.str (@Str.ofString "self") (nat_lit 422)), (@Value.str (@Str.ofString "given") (nat_lit 423))]) (nat_lit 0)) (.mk []))
def o191 (P : Params) : Obj := (@Obj.mk (@Value.type "tuple") none (@Data.seq (.mk []) (nat_lit 0)) (.mk []))
def o192 (P : Params) : Obj := (@Obj.mk Value.none none (@Data.func (@FuncData.mk (@Str.ofString "__init__") (@Str.ofString "UnknownThing.__init__") (defArgs (inClass (topS 11) 0)) (@FuncBody.stmts (defBody (inClass (topS 11) 0))) (defScope (inClass (topS 11) 0)) (nat_lit 0) [] Value.none Value.none Value.none Value.none none Value.none Value.none (nat_lit 0))) (.mk []))
def o193 (P : Params) : Obj := (@Obj.mk (@Value.type "code") none (@Data.fields (.mk [(@Value.str (@Str.ofString "__init__") (nat_lit 419)), (@Value.str (@Str.ofString "UnknownThing.__init__") (nat_lit 420)), (@Value.str (@Str.ofString "/claim/cut.py") (nat_lit 421)), (@Value.int (.ofNat (nat_lit 39)) (nat_lit 0)), (@Value.int (.ofNat (nat_lit 2)) (nat_lit 0)), (@Value.int (.ofNat (nat_lit 0)) (nat_lit 0)), (@Value.int (.ofNat (nat_lit 0)) (nat_lit 0)), (@Value.int (.ofNat (nat_lit 3)) (nat_lit 0)), (@Value.ref (nat_lit 188)), (@Value.bool true), (@Value.int (.ofNat (nat_lit 181)) (nat_lit 0)), (@Value.ref (nat_lit 189)), Value.none, (@Value.ref (nat_lit 190)), (@Value.ref (nat_lit 191)), (@Value.ref (nat_lit 192)), (@Value.int (.ofNat (nat_lit 424)) (nat_lit 0)), (@Value.int (.ofNat (nat_lit 39)) (nat_lit 0)), (@Value.str (@Str.ofString "/claim/cut.py") (nat_lit 425))])) (.mk []))
def o194 (P : Params) : Obj := (@Obj.mk (@Value.type "function") none (@Data.func (@FuncData.mk (@Str.ofString "__init__") (@Str.ofString "UnknownThing.__init__") (defArgs (inClass (topS 11) 0)) (@FuncBody.stmts (defBody (inClass (topS 11) 0))) (defScope (inClass (topS 11) 0)) (nat_lit 3) [] Value.none Value.none Value.none (@Value.str (@Str.ofString "menuhouses.errors") (nat_lit 194)) none (@Value.ref (nat_lit 193)) Value.none (nat_lit 0))) (.mk []))
def o195 (P : Params) : Obj := (@Obj.mk (@Value.type "tuple") none (@Data.seq (.mk [(@Value.str (@Str.ofString "given") (nat_lit 427))]) (nat_lit 0)) (.mk []))
def o196 (P : Params) : Obj := (@Obj.mk (@Value.type "dict") none (@Data.dict (.mk [(@DictEntry.mk (@PyData.keyHash P (@Str.ofString "__module__")) (@Value.str (@Str.ofString "__module__") (nat_lit 414)) (@Value.str (@Str.ofString "menuhouses.errors") (nat_lit 194))), (@DictEntry.mk (@PyData.keyHash P (@Str.ofString "__firstlineno__")) (@Value.str (@Str.ofString "__firstlineno__") (nat_lit 418)) (@Value.int (.ofNat (nat_lit 37)) (nat_lit 417))), (@DictEntry.mk (@PyData.keyHash P (@Str.ofString "__init__")) (@Value.str (@Str.ofString "__init__") (nat_lit 426)) (@Value.ref (nat_lit 194))), (@DictEntry.mk (@PyData.keyHash P (@Str.ofString "__static_attributes__")) (@Value.str (@Str.ofString "__static_attributes__") (nat_lit 428)) (@Value.ref (nat_lit 195))), (@DictEntry.mk (@PyData.keyHash P (@Str.ofString "__doc__")) (@Value.str (@Str.ofString "__doc__") (nat_lit 429)) Value.none)]) (nat_lit 2)) (.mk []))
def o197 (P : Params) : Obj := (@Obj.mk (@Value.type "type") none (@Data.cls (@ClassData.mk (@Str.ofString "UnknownThing") [(@Value.ref (nat_lit 177))] [(@Value.ref (nat_lit 197)), (@Value.ref (nat_lit 177)), (@Value.type "LookupError"), (@Value.type "Exception"), (@Value.type "BaseException"), (@Value.type "object")] (nat_lit 196) (@Str.ofString "UnknownThing") true [] [] false none false)) (.mk [(some (@Value.ref (nat_lit 181))), none, (some (@Value.str (@Str.ofString "UnknownThing") (nat_lit 407))), (some (@Value.str (@Str.ofString "UnknownThing") (nat_lit 415))), (some (@Value.builtin "LookupError.__new__")), (some (@Value.bool true))]))
def o198 (P : Params) : Obj := (@Obj.mk (@Value.type "super") none (@Data.fields (.mk [(@Value.ref (nat_lit 197)), (@Value.ref (nat_lit 197)), (@Value.ref (nat_lit 197))])) (.mk []))
def o199 (P : Params) : Obj := (@Obj.mk (@Value.type "builtin_function_or_method") none (@Data.fields (.mk [(@Value.builtin "object.__init_subclass__"), (@Value.ref (nat_lit 197))])) (.mk []))
def o2 (P : Params) : Obj := (@Obj.mk Value.none none (@Data.dict (.mk [(@DictEntry.mk (@PyData.keyHash P (@Str.ofString "type.__subclasses__.ArithmeticError.0")) (@Value.str (@Str.ofString "type.__subclasses__.ArithmeticError.0") (nat_lit 448)) (@Value.int (.ofNat (nat_lit 209)) (nat_lit 0))), (@DictEntry.mk (@PyData.keyHash P (@Str.ofString "type.__subclasses__.ArithmeticError.n")) (@Value.str (@Str.ofString "type.__subclasses__.ArithmeticError.n") (nat_lit 449)) (@Value.int (.ofNat (nat_lit 1)) (nat_lit 0)))]) (nat_lit 2)) (.mk []))
def o3v2 (P : Params) : Obj := (@Obj.mk (@Value.type "dict") none (@Data.dict (.mk [(@DictEntry.mk (@PyData.keyHash P (@Str.ofString "__name__")) (@Value.str (@Str.ofString "__name__") (nat_lit 165)) (@Value.str (@Str.ofString "menuhouses.pairing") (nat_lit 648))), (@DictEntry.mk (@PyData.keyHash P (@Str.ofString "__doc__")) (@Value.str (@Str.ofString "__doc__") (nat_lit 166)) Value.none), (@DictEntry.mk (@PyData.keyHash P (@Str.ofString "__package__")) (@Value.str (@Str.ofString "__package__") (nat_lit 167)) Value.none), (@DictEntry.mk (@PyData.keyHash P (@Str.ofString "__loader__")) (@Value.str (@Str.ofString "__loader__") (nat_lit 168)) (@Value.builtin "__main__.__loader__#opaque")), (@DictEntry.mk (@PyData.keyHash P (@Str.ofString "__spec__")) (@Value.str (@Str.ofString "__spec__") (nat_lit 169)) Value.none), (@DictEntry.mk (@PyData.keyHash P (@Str.ofString "__annotations__")) (@Value.str (@Str.ofString "__annotations__") (nat_lit 170)) (@Value.ref (nat_lit 6))), (@DictEntry.mk (@PyData.keyHash P (@Str.ofString "__builtins__")) (@Value.str (@Str.ofString "__builtins__") (nat_lit 171)) (@Value.ref (nat_lit 4))), (@DictEntry.mk (@PyData.keyHash P (@Str.ofString "__file__")) (@Value.str (@Str.ofString "__file__") (nat_lit 173)) (@Value.str (@Str.ofString "/claim/cut.py") (nat_lit 172))), (@DictEntry.mk (@PyData.keyHash P (@Str.ofString "__cached__")) (@Value.str (@Str.ofString "__cached__") (nat_lit 174)) Value.none), (@DictEntry.mk (@PyData.keyHash P (@Str.ofString "_wall")) (@Value.str (@Str.ofString "_wall") (nat_lit 193)) (@Value.ref (nat_lit 21))), (@DictEntry.mk (@PyData.keyHash P (@Str.ofString "WrongValue")) (@Value.str (@Str.ofString "WrongValue") (nat_lit 213)) (@Value.ref (nat_lit 31))), (@DictEntry.mk (@PyData.keyHash P (@Str.ofString "InvalidText")) (@Value.str (@Str.ofString "InvalidText") (nat_lit 238)) (@Value.ref (nat_lit 51))), (@DictEntry.mk (@PyData.keyHash P (@Str.ofString "InvalidIndex")) (@Value.str (@Str.ofString "InvalidIndex") (nat_lit 263)) (@Value.ref (nat_lit 70))), (@DictEntry.mk (@PyData.keyHash P (@Str.ofString "NotAHouse")) (@Value.str (@Str.ofString "NotAHouse") (nat_lit 288)) (@Value.ref (nat_lit 89))), (@DictEntry.mk (@PyData.keyHash P (@Str.ofString "OtherThings")) (@Value.str (@Str.ofString "OtherThings") (nat_lit 313)) (@Value.ref (nat_lit 108))), (@DictEntry.mk (@PyData.keyHash P (@Str.ofString "InvalidRow")) (@Value.str (@Str.ofString "InvalidRow") (nat_lit 338)) (@Value.ref (nat_lit 127))), (@DictEntry.mk (@PyData.keyHash P (@Str.ofString "InvalidMenu")) (@Value.str (@Str.ofString "InvalidMenu") (nat_lit 363)) (@Value.ref (nat_lit 146))), (@DictEntry.mk (@PyData.keyHash P (@Str.ofString "InvalidRankings")) (@Value.str (@Str.ofString "InvalidRankings") (nat_lit 388)) (@Value.ref (nat_lit 165))), (@DictEntry.mk (@PyData.keyHash P (@Str.ofString "WrongName")) (@Value.str (@Str.ofString "WrongName") (nat_lit 406)) (@Value.ref (nat_lit 177))), (@DictEntry.mk (@PyData.keyHash P (@Str.ofString "UnknownThing")) (@Value.str (@Str.ofString "UnknownThing") (nat_lit 431)) (@Value.ref (nat_lit 197))), (@DictEntry.mk (@PyData.keyHash P (@Str.ofString "NoAnswer")) (@Value.str (@Str.ofString "NoAnswer") (nat_lit 451)) (@Value.ref (nat_lit 209))), (@DictEntry.mk (@PyData.keyHash P (@Str.ofString "TooMany")) (@Value.str (@Str.ofString "TooMany") (nat_lit 476)) (@Value.ref (nat_lit 229))), (@DictEntry.mk (@PyData.keyHash P (@Str.ofString "NoHouse")) (@Value.str (@Str.ofString "NoHouse") (nat_lit 501)) (@Value.ref (nat_lit 248))), (@DictEntry.mk (@PyData.keyHash P (@Str.ofString "MOST_THINGS")) (@Value.str (@Str.ofString "MOST_THINGS") (nat_lit 503)) (@Value.int (.ofNat (nat_lit 10)) (nat_lit 502))), (@DictEntry.mk (@PyData.keyHash P (@Str.ofString "MOST_PEOPLE")) (@Value.str (@Str.ofString "MOST_PEOPLE") (nat_lit 505)) (@Value.int (.ofNat (nat_lit 24)) (nat_lit 504))), (@DictEntry.mk (@PyData.keyHash P (@Str.ofString "LETTERS")) (@Value.str (@Str.ofString "LETTERS") (nat_lit 509)) (@Value.str (@Str.ofString "abcdefghijklmnopqrstuvwxyz") (nat_lit 508))), (@DictEntry.mk (@PyData.keyHash P (@Str.ofString "DIGITS")) (@Value.str (@Str.ofString "DIGITS") (nat_lit 511)) (@Value.str (@Str.ofString "0123456789") (nat_lit 510))), (@DictEntry.mk (@PyData.keyHash P (@Str.ofString "LONGEST_NAME")) (@Value.str (@Str.ofString "LONGEST_NAME") (nat_lit 513)) (@Value.int (.ofNat (nat_lit 8)) (nat_lit 512))), (@DictEntry.mk (@PyData.keyHash P (@Str.ofString "is_index")) (@Value.str (@Str.ofString "is_index") (nat_lit 521)) (@Value.ref (nat_lit 257))), (@DictEntry.mk (@PyData.keyHash P (@Str.ofString "is_name")) (@Value.str (@Str.ofString "is_name") (nat_lit 527)) (@Value.ref (nat_lit 262))), (@DictEntry.mk (@PyData.keyHash P (@Str.ofString "is_filled_tuple")) (@Value.str (@Str.ofString "is_filled_tuple") (nat_lit 534)) (@Value.ref (nat_lit 269))), (@DictEntry.mk (@PyData.keyHash P (@Str.ofString "is_one_of")) (@Value.str (@Str.ofString "is_one_of") (nat_lit 542)) (@Value.ref (nat_lit 276))), (@DictEntry.mk (@PyData.keyHash P (@Str.ofString "first_wrong_in_row")) (@Value.str (@Str.ofString "first_wrong_in_row") (nat_lit 551)) (@Value.ref (nat_lit 283))), (@DictEntry.mk (@PyData.keyHash P (@Str.ofString "first_wrong_on_menu")) (@Value.str (@Str.ofString "first_wrong_on_menu") (nat_lit 561)) (@Value.ref (nat_lit 290))), (@DictEntry.mk (@PyData.keyHash P (@Str.ofString "check_row")) (@Value.str (@Str.ofString "check_row") (nat_lit 569)) (@Value.ref (nat_lit 297))), (@DictEntry.mk (@PyData.keyHash P (@Str.ofString "check_menu")) (@Value.str (@Str.ofString "check_menu") (nat_lit 578)) (@Value.ref (nat_lit 304))), (@DictEntry.mk (@PyData.keyHash P (@Str.ofString "check_thing")) (@Value.str (@Str.ofString "check_thing") (nat_lit 586)) (@Value.ref (nat_lit 311))), (@DictEntry.mk (@PyData.keyHash P (@Str.ofString "mask_of_all")) (@Value.str (@Str.ofString "mask_of_all") (nat_lit 595)) (@Value.ref (nat_lit 318))), (@DictEntry.mk (@PyData.keyHash P (@Str.ofString "index_of")) (@Value.str (@Str.ofString "index_of") (nat_lit 601)) (@Value.ref (nat_lit 323))), (@DictEntry.mk (@PyData.keyHash P (@Str.ofString "mask_of")) (@Value.str (@Str.ofString "mask_of") (nat_lit 611)) (@Value.ref (nat_lit 330))), (@DictEntry.mk (@PyData.keyHash P (@Str.ofString "indexes_of")) (@Value.str (@Str.ofString "indexes_of") (nat_lit 617)) (@Value.ref (nat_lit 335))), (@DictEntry.mk (@PyData.keyHash P (@Str.ofString "names_of")) (@Value.str (@Str.ofString "names_of") (nat_lit 623)) (@Value.ref (nat_lit 340))), (@DictEntry.mk (@PyData.keyHash P (@Str.ofString "below_masks")) (@Value.str (@Str.ofString "below_masks") (nat_lit 629)) (@Value.ref (nat_lit 345))), (@DictEntry.mk (@PyData.keyHash P (@Str.ofString "is_covered")) (@Value.str (@Str.ofString "is_covered") (nat_lit 638)) (@Value.ref (nat_lit 352))), (@DictEntry.mk (@PyData.keyHash P (@Str.ofString "greatest")) (@Value.str (@Str.ofString "greatest") (nat_lit 647)) (@Value.ref (nat_lit 359))), (@DictEntry.mk (@PyData.keyHash P (@Str.ofString "greater_sets")) (@Value.str (@Str.ofString "greater_sets") (nat_lit 655)) (@Value.ref (nat_lit 364)))]) (nat_lit 46)) (.mk []))
def o12v3 (P : Params) : Obj := (@Obj.mk Value.none none (@Data.fields (.mk [(@Value.int (.ofNat (nat_lit 1)) (nat_lit 0)), (@Value.int (.ofNat (nat_lit 0)) (nat_lit 0)), (@Value.ref (nat_lit 20)), (@Value.int (.ofNat (nat_lit 5)) (nat_lit 0)), (@Value.int (.ofNat (nat_lit 0)) (nat_lit 0)), (@Value.ref (nat_lit 27)), (@Value.int (.ofNat (nat_lit 7)) (nat_lit 0)), (@Value.int (.ofNat (nat_lit 0)) (nat_lit 0)), (@Value.ref (nat_lit 40)), (@Value.int (.ofNat (nat_lit 11)) (nat_lit 0)), (@Value.int (.ofNat (nat_lit 0)) (nat_lit 0)), (@Value.ref (nat_lit 59)), (@Value.int (.ofNat (nat_lit 15)) (nat_lit 0)), (@Value.int (.ofNat (nat_lit 0)) (nat_lit 0)), (@Value.ref (nat_lit 78)), (@Value.int (.ofNat (nat_lit 19)) (nat_lit 0)), (@Value.int (.ofNat (nat_lit 0)) (nat_lit 0)), (@Value.ref (nat_lit 97)), (@Value.int (.ofNat (nat_lit 23)) (nat_lit 0)), (@Value.int (.ofNat (nat_lit 0)) (nat_lit 0)), (@Value.ref (nat_lit 116)), (@Value.int (.ofNat (nat_lit 27)) (nat_lit 0)), (@Value.int (.ofNat (nat_lit 0)) (nat_lit 0)), (@Value.ref (nat_lit 135)), (@Value.int (.ofNat (nat_lit 31)) (nat_lit 0)), (@Value.int (.ofNat (nat_lit 0)) (nat_lit 0)), (@Value.ref (nat_lit 154)), (@Value.int (.ofNat (nat_lit 35)) (nat_lit 0)), (@Value.int (.ofNat (nat_lit 0)) (nat_lit 0)), (@Value.ref (nat_lit 173)), (@Value.int (.ofNat (nat_lit 37)) (nat_lit 0)), (@Value.int (.ofNat (nat_lit 0)) (nat_lit 0)), (@Value.ref (nat_lit 186)), (@Value.int (.ofNat (nat_lit 41)) (nat_lit 0)), (@Value.int (.ofNat (nat_lit 0)) (nat_lit 0)), (@Value.ref (nat_lit 205)), (@Value.int (.ofNat (nat_lit 43)) (nat_lit 0)), (@Value.int (.ofNat (nat_lit 0)) (nat_lit 0)), (@Value.ref (nat_lit 218)), (@Value.int (.ofNat (nat_lit 47)) (nat_lit 0)), (@Value.int (.ofNat (nat_lit 0)) (nat_lit 0)), (@Value.ref (nat_lit 237)), (@Value.int (.ofNat (nat_lit 57)) (nat_lit 0)), (@Value.int (.ofNat (nat_lit 0)) (nat_lit 0)), (@Value.ref (nat_lit 256)), (@Value.int (.ofNat (nat_lit 59)) (nat_lit 0)), (@Value.int (.ofNat (nat_lit 0)) (nat_lit 0)), (@Value.ref (nat_lit 261)), (@Value.int (.ofNat (nat_lit 63)) (nat_lit 0)), (@Value.int (.ofNat (nat_lit 0)) (nat_lit 0)), (@Value.ref (nat_lit 268)), (@Value.int (.ofNat (nat_lit 65)) (nat_lit 0)), (@Value.int (.ofNat (nat_lit 0)) (nat_lit 0)), (@Value.ref (nat_lit 275)), (@Value.int (.ofNat (nat_lit 67)) (nat_lit 0)), (@Value.int (.ofNat (nat_lit 0)) (nat_lit 0)), (@Value.ref (nat_lit 282)), (@Value.int (.ofNat (nat_lit 72)) (nat_lit 0)), (@Value.int (.ofNat (nat_lit 0)) (nat_lit 0)), (@Value.ref (nat_lit 289)), (@Value.int (.ofNat (nat_lit 79)) (nat_lit 0)), (@Value.int (.ofNat (nat_lit 0)) (nat_lit 0)), (@Value.ref (nat_lit 296)), (@Value.int (.ofNat (nat_lit 85)) (nat_lit 0)), (@Value.int (.ofNat (nat_lit 0)) (nat_lit 0)), (@Value.ref (nat_lit 303)), (@Value.int (.ofNat (nat_lit 91)) (nat_lit 0)), (@Value.int (.ofNat (nat_lit 0)) (nat_lit 0)), (@Value.ref (nat_lit 310)), (@Value.int (.ofNat (nat_lit 95)) (nat_lit 0)), (@Value.int (.ofNat (nat_lit 0)) (nat_lit 0)), (@Value.ref (nat_lit 317)), (@Value.int (.ofNat (nat_lit 97)) (nat_lit 0)), (@Value.int (.ofNat (nat_lit 0)) (nat_lit 0)), (@Value.ref (nat_lit 322)), (@Value.int (.ofNat (nat_lit 99)) (nat_lit 0)), (@Value.int (.ofNat (nat_lit 0)) (nat_lit 0)), (@Value.ref (nat_lit 329)), (@Value.int (.ofNat (nat_lit 104)) (nat_lit 0)), (@Value.int (.ofNat (nat_lit 0)) (nat_lit 0)), (@Value.ref (nat_lit 334)), (@Value.int (.ofNat (nat_lit 106)) (nat_lit 0)), (@Value.int (.ofNat (nat_lit 0)) (nat_lit 0)), (@Value.ref (nat_lit 339)), (@Value.int (.ofNat (nat_lit 108)) (nat_lit 0)), (@Value.int (.ofNat (nat_lit 0)) (nat_lit 0)), (@Value.ref (nat_lit 344)), (@Value.int (.ofNat (nat_lit 110)) (nat_lit 0)), (@Value.int (.ofNat (nat_lit 0)) (nat_lit 0)), (@Value.ref (nat_lit 351)), (@Value.int (.ofNat (nat_lit 115)) (nat_lit 0)), (@Value.int (.ofNat (nat_lit 0)) (nat_lit 0)), (@Value.ref (nat_lit 358)), (@Value.int (.ofNat (nat_lit 122)) (nat_lit 0)), (@Value.int (.ofNat (nat_lit 0)) (nat_lit 0)), (@Value.ref (nat_lit 363))])) (.mk []))
def o200 (P : Params) : Obj := (@Obj.mk (@Value.type "tuple") none (@Data.seq (.mk [(@Value.type "ArithmeticError")]) (nat_lit 0)) (.mk []))
def o201 (P : Params) : Obj := (@Obj.mk (@Value.type "builtin_function_or_method") none (@Data.fields (.mk [(@Value.builtin "type.__prepare__"), (@Value.type "type")])) (.mk []))
def o202 (P : Params) : Obj := (@Obj.mk (@Value.type "dict") none (@Data.dict (.mk [(@DictEntry.mk (@PyData.keyHash P (@Str.ofString "__module__")) (@Value.str (@Str.ofString "__module__") (nat_lit 439)) (@Value.str (@Str.ofString "menuhouses.errors") (nat_lit 194))), (@DictEntry.mk (@PyData.keyHash P (@Str.ofString "__qualname__")) (@Value.str (@Str.ofString "__qualname__") (nat_lit 441)) (@Value.str (@Str.ofString "NoAnswer") (nat_lit 440))), (@DictEntry.mk (@PyData.keyHash P (@Str.ofString "__firstlineno__")) (@Value.str (@Str.ofString "__firstlineno__") (nat_lit 443)) (@Value.int (.ofNat (nat_lit 41)) (nat_lit 442))), (@DictEntry.mk (@PyData.keyHash P (@Str.ofString "__static_attributes__")) (@Value.str (@Str.ofString "__static_attributes__") (nat_lit 444)) (@Value.ref (nat_lit 207)))]) (nat_lit 4)) (.mk []))
def o203 (P : Params) : Obj := (@Obj.mk (@Value.type "tuple") none (@Data.seq (.mk []) (nat_lit 0)) (.mk []))
def o204 (P : Params) : Obj := (@Obj.mk Value.none none (@Data.fields (.mk [])) (.mk []))
def o205 (P : Params) : Obj := (@Obj.mk (@Value.type "code") none (@Data.fields (.mk [(@Value.str (@Str.ofString "NoAnswer") (nat_lit 434)), (@Value.str (@Str.ofString "NoAnswer") (nat_lit 435)), (@Value.str (@Str.ofString "/claim/cut.py") (nat_lit 436)), (@Value.int (.ofNat (nat_lit 41)) (nat_lit 0)), (@Value.int (.ofNat (nat_lit 0)) (nat_lit 0)), (@Value.int (.ofNat (nat_lit 0)) (nat_lit 0)), (@Value.int (.ofNat (nat_lit 0)) (nat_lit 0)), (@Value.int (.ofNat (nat_lit 0)) (nat_lit 0)), (@Value.ref (nat_lit 203)), (@Value.bool false), (@Value.int (.ofNat (nat_lit 181)) (nat_lit 0)), (@Value.ref (nat_lit 204)), Value.none, Value.none, Value.none, Value.none, (@Value.int (.ofNat (nat_lit 437)) (nat_lit 0)), (@Value.int (.ofNat (nat_lit 41)) (nat_lit 0)), (@Value.str (@Str.ofString "/claim/cut.py") (nat_lit 438))])) (.mk []))
def o206 (P : Params) : Obj := (@Obj.mk (@Value.type "frame") none Data.plain (.mk [(some (@Value.ref (nat_lit 205))), (some (@Value.ref (nat_lit 3))), (some (@Value.ref (nat_lit 202))), none, (some (@Value.str (@Str.ofString "menuhouses.errors") (nat_lit 194))), none, (some (@Value.ref (nat_lit 0)))]))
def o207 (P : Params) : Obj := (@Obj.mk (@Value.type "tuple") none (@Data.seq (.mk []) (nat_lit 0)) (.mk []))
def o208 (P : Params) : Obj := (@Obj.mk (@Value.type "dict") none (@Data.dict (.mk [(@DictEntry.mk (@PyData.keyHash P (@Str.ofString "__module__")) (@Value.str (@Str.ofString "__module__") (nat_lit 439)) (@Value.str (@Str.ofString "menuhouses.errors") (nat_lit 194))), (@DictEntry.mk (@PyData.keyHash P (@Str.ofString "__firstlineno__")) (@Value.str (@Str.ofString "__firstlineno__") (nat_lit 443)) (@Value.int (.ofNat (nat_lit 41)) (nat_lit 442))), (@DictEntry.mk (@PyData.keyHash P (@Str.ofString "__static_attributes__")) (@Value.str (@Str.ofString "__static_attributes__") (nat_lit 444)) (@Value.ref (nat_lit 207))), (@DictEntry.mk (@PyData.keyHash P (@Str.ofString "__weakref__")) (@Value.str (@Str.ofString "__weakref__") (nat_lit 446)) (@Value.ref (nat_lit 210))), (@DictEntry.mk (@PyData.keyHash P (@Str.ofString "__doc__")) (@Value.str (@Str.ofString "__doc__") (nat_lit 447)) Value.none)]) (nat_lit 3)) (.mk []))
def o209 (P : Params) : Obj := (@Obj.mk (@Value.type "type") none (@Data.cls (@ClassData.mk (@Str.ofString "NoAnswer") [(@Value.type "ArithmeticError")] [(@Value.ref (nat_lit 209)), (@Value.type "ArithmeticError"), (@Value.type "Exception"), (@Value.type "BaseException"), (@Value.type "object")] (nat_lit 208) (@Str.ofString "NoAnswer") true [] [(@Value.ref (nat_lit 229)), (@Value.ref (nat_lit 248))] false none false)) (.mk [(some (@Value.ref (nat_lit 200))), none, (some (@Value.str (@Str.ofString "NoAnswer") (nat_lit 432))), (some (@Value.str (@Str.ofString "NoAnswer") (nat_lit 440))), (some (@Value.builtin "ArithmeticError.__new__")), (some (@Value.bool true))]))
def o210 (P : Params) : Obj := (@Obj.mk (@Value.type "getset_descriptor") none (@Data.fields (.mk [(@Value.str (@Str.ofString "__weakref__") (nat_lit 445)), (@Value.ref (nat_lit 209)), (@Value.builtin "ExceptionGroup.__weakref__"), Value.none])) (.mk []))
def o211 (P : Params) : Obj := (@Obj.mk (@Value.type "super") none (@Data.fields (.mk [(@Value.ref (nat_lit 209)), (@Value.ref (nat_lit 209)), (@Value.ref (nat_lit 209))])) (.mk []))
def o212 (P : Params) : Obj := (@Obj.mk (@Value.type "builtin_function_or_method") none (@Data.fields (.mk [(@Value.builtin "object.__init_subclass__"), (@Value.ref (nat_lit 209))])) (.mk []))
def o213 (P : Params) : Obj := (@Obj.mk (@Value.type "tuple") none (@Data.seq (.mk [(@Value.ref (nat_lit 209))]) (nat_lit 0)) (.mk []))
def o214 (P : Params) : Obj := (@Obj.mk (@Value.type "builtin_function_or_method") none (@Data.fields (.mk [(@Value.builtin "type.__prepare__"), (@Value.type "type")])) (.mk []))
def o215 (P : Params) : Obj := (@Obj.mk (@Value.type "dict") none (@Data.dict (.mk [(@DictEntry.mk (@PyData.keyHash P (@Str.ofString "__module__")) (@Value.str (@Str.ofString "__module__") (nat_lit 459)) (@Value.str (@Str.ofString "menuhouses.errors") (nat_lit 194))), (@DictEntry.mk (@PyData.keyHash P (@Str.ofString "__qualname__")) (@Value.str (@Str.ofString "__qualname__") (nat_lit 461)) (@Value.str (@Str.ofString "TooMany") (nat_lit 460))), (@DictEntry.mk (@PyData.keyHash P (@Str.ofString "__firstlineno__")) (@Value.str (@Str.ofString "__firstlineno__") (nat_lit 463)) (@Value.int (.ofNat (nat_lit 43)) (nat_lit 462))), (@DictEntry.mk (@PyData.keyHash P (@Str.ofString "__init__")) (@Value.str (@Str.ofString "__init__") (nat_lit 471)) (@Value.ref (nat_lit 226))), (@DictEntry.mk (@PyData.keyHash P (@Str.ofString "__static_attributes__")) (@Value.str (@Str.ofString "__static_attributes__") (nat_lit 473)) (@Value.ref (nat_lit 227)))]) (nat_lit 5)) (.mk []))
def o216 (P : Params) : Obj := (@Obj.mk (@Value.type "tuple") none (@Data.seq (.mk []) (nat_lit 0)) (.mk []))
def o217 (P : Params) : Obj := (@Obj.mk Value.none none (@Data.fields (.mk [(@Value.int (.ofNat (nat_lit 45)) (nat_lit 0)), (@Value.int (.ofNat (nat_lit 4)) (nat_lit 0)), (@Value.ref (nat_lit 225))])) (.mk []))
def o218 (P : Params) : Obj := (@Obj.mk (@Value.type "code") none (@Data.fields (.mk [(@Value.str (@Str.ofString "TooMany") (nat_lit 454)), (@Value.str (@Str.ofString "TooMany") (nat_lit 455)), (@Value.str (@Str.ofString "/claim/cut.py") (nat_lit 456)), (@Value.int (.ofNat (nat_lit 43)) (nat_lit 0)), (@Value.int (.ofNat (nat_lit 0)) (nat_lit 0)), (@Value.int (.ofNat (nat_lit 0)) (nat_lit 0)), (@Value.int (.ofNat (nat_lit 0)) (nat_lit 0)), (@Value.int (.ofNat (nat_lit 0)) (nat_lit 0)), (@Value.ref (nat_lit 216)), (@Value.bool false), (@Value.int (.ofNat (nat_lit 181)) (nat_lit 0)), (@Value.ref (nat_lit 217)), Value.none, Value.none, Value.none, Value.none, (@Value.int (.ofNat (nat_lit 457)) (nat_lit 0)), (@Value.int (.ofNat (nat_lit 43)) (nat_lit 0)), (@Value.str (@Str.ofString "/claim/cut.py") (nat_lit 458))])) (.mk []))
def o219 (P : Params) : Obj := (@Obj.mk (@Value.type "frame") none Data.plain (.mk [(some (@Value.ref (nat_lit 218))), (some (@Value.ref (nat_lit 3))), (some (@Value.ref (nat_lit 215))), none, (some (@Value.str (@Str.ofString "menuhouses.errors") (nat_lit 194))), none, (some (@Value.ref (nat_lit 0)))]))
def o220 (P : Params) : Obj := (@Obj.mk (@Value.type "tuple") none (@Data.seq (.mk []) (nat_lit 0)) (.mk []))
def o221 (P : Params) : Obj := (@Obj.mk Value.none none (@Data.fields (.mk [])) (.mk []))
def o222 (P : Params) : Obj := (@Obj.mk (@Value.type "tuple") none (@Data.seq (.mk [(@Value.str (@Str.ofString "self") (nat_lit 467)), (@Value.str (@Str.ofString "number") (nat_lit 468))]) (nat_lit 0)) (.mk []))
def o223 (P : Params) : Obj := (@Obj.mk (@Value.type "tuple") none (@Data.seq (.mk []) (nat_lit 0)) (.mk []))
def o224 (P : Params) : Obj := (@Obj.mk Value.none none (@Data.func (@FuncData.mk (@Str.ofString "__init__") (@Str.ofString "TooMany.__init__") (defArgs (inClass (topS 13) 0)) (@FuncBody.stmts (defBody (inClass (topS 13) 0))) (defScope (inClass (topS 13) 0)) (nat_lit 0) [] Value.none Value.none Value.none Value.none none Value.none Value.none (nat_lit 0))) (.mk []))
def o225 (P : Params) : Obj := (@Obj.mk (@Value.type "code") none (@Data.fields (.mk [(@Value.str (@Str.ofString "__init__") (nat_lit 464)), (@Value.str (@Str.ofString "TooMany.__init__") (nat_lit 465)), (@Value.str (@Str.ofString "/claim/cut.py") (nat_lit 466)), (@Value.int (.ofNat (nat_lit 45)) (nat_lit 0)), (@Value.int (.ofNat (nat_lit 2)) (nat_lit 0)), (@Value.int (.ofNat (nat_lit 0)) (nat_lit 0)), (@Value.int (.ofNat (nat_lit 0)) (nat_lit 0)), (@Value.int (.ofNat (nat_lit 3)) (nat_lit 0)), (@Value.ref (nat_lit 220)), (@Value.bool true), (@Value.int (.ofNat (nat_lit 181)) (nat_lit 0)), (@Value.ref (nat_lit 221)), Value.none, (@Value.ref (nat_lit 222)), (@Value.ref (nat_lit 223)), (@Value.ref (nat_lit 224)), (@Value.int (.ofNat (nat_lit 469)) (nat_lit 0)), (@Value.int (.ofNat (nat_lit 45)) (nat_lit 0)), (@Value.str (@Str.ofString "/claim/cut.py") (nat_lit 470))])) (.mk []))
def o226 (P : Params) : Obj := (@Obj.mk (@Value.type "function") none (@Data.func (@FuncData.mk (@Str.ofString "__init__") (@Str.ofString "TooMany.__init__") (defArgs (inClass (topS 13) 0)) (@FuncBody.stmts (defBody (inClass (topS 13) 0))) (defScope (inClass (topS 13) 0)) (nat_lit 3) [] Value.none Value.none Value.none (@Value.str (@Str.ofString "menuhouses.errors") (nat_lit 194)) none (@Value.ref (nat_lit 225)) Value.none (nat_lit 0))) (.mk []))
def o227 (P : Params) : Obj := (@Obj.mk (@Value.type "tuple") none (@Data.seq (.mk [(@Value.str (@Str.ofString "number") (nat_lit 472))]) (nat_lit 0)) (.mk []))
def o228 (P : Params) : Obj := (@Obj.mk (@Value.type "dict") none (@Data.dict (.mk [(@DictEntry.mk (@PyData.keyHash P (@Str.ofString "__module__")) (@Value.str (@Str.ofString "__module__") (nat_lit 459)) (@Value.str (@Str.ofString "menuhouses.errors") (nat_lit 194))), (@DictEntry.mk (@PyData.keyHash P (@Str.ofString "__firstlineno__")) (@Value.str (@Str.ofString "__firstlineno__") (nat_lit 463)) (@Value.int (.ofNat (nat_lit 43)) (nat_lit 462))), (@DictEntry.mk (@PyData.keyHash P (@Str.ofString "__init__")) (@Value.str (@Str.ofString "__init__") (nat_lit 471)) (@Value.ref (nat_lit 226))), (@DictEntry.mk (@PyData.keyHash P (@Str.ofString "__static_attributes__")) (@Value.str (@Str.ofString "__static_attributes__") (nat_lit 473)) (@Value.ref (nat_lit 227))), (@DictEntry.mk (@PyData.keyHash P (@Str.ofString "__doc__")) (@Value.str (@Str.ofString "__doc__") (nat_lit 474)) Value.none)]) (nat_lit 2)) (.mk []))
def o229 (P : Params) : Obj := (@Obj.mk (@Value.type "type") none (@Data.cls (@ClassData.mk (@Str.ofString "TooMany") [(@Value.ref (nat_lit 209))] [(@Value.ref (nat_lit 229)), (@Value.ref (nat_lit 209)), (@Value.type "ArithmeticError"), (@Value.type "Exception"), (@Value.type "BaseException"), (@Value.type "object")] (nat_lit 228) (@Str.ofString "TooMany") true [] [] false none false)) (.mk [(some (@Value.ref (nat_lit 213))), none, (some (@Value.str (@Str.ofString "TooMany") (nat_lit 452))), (some (@Value.str (@Str.ofString "TooMany") (nat_lit 460))), (some (@Value.builtin "ArithmeticError.__new__")), (some (@Value.bool true))]))
def o230 (P : Params) : Obj := (@Obj.mk (@Value.type "super") none (@Data.fields (.mk [(@Value.ref (nat_lit 229)), (@Value.ref (nat_lit 229)), (@Value.ref (nat_lit 229))])) (.mk []))
def o231 (P : Params) : Obj := (@Obj.mk (@Value.type "builtin_function_or_method") none (@Data.fields (.mk [(@Value.builtin "object.__init_subclass__"), (@Value.ref (nat_lit 229))])) (.mk []))
def o232 (P : Params) : Obj := (@Obj.mk (@Value.type "tuple") none (@Data.seq (.mk [(@Value.ref (nat_lit 209))]) (nat_lit 0)) (.mk []))
def o233 (P : Params) : Obj := (@Obj.mk (@Value.type "builtin_function_or_method") none (@Data.fields (.mk [(@Value.builtin "type.__prepare__"), (@Value.type "type")])) (.mk []))
def o234 (P : Params) : Obj := (@Obj.mk (@Value.type "dict") none (@Data.dict (.mk [(@DictEntry.mk (@PyData.keyHash P (@Str.ofString "__module__")) (@Value.str (@Str.ofString "__module__") (nat_lit 484)) (@Value.str (@Str.ofString "menuhouses.errors") (nat_lit 194))), (@DictEntry.mk (@PyData.keyHash P (@Str.ofString "__qualname__")) (@Value.str (@Str.ofString "__qualname__") (nat_lit 486)) (@Value.str (@Str.ofString "NoHouse") (nat_lit 485))), (@DictEntry.mk (@PyData.keyHash P (@Str.ofString "__firstlineno__")) (@Value.str (@Str.ofString "__firstlineno__") (nat_lit 488)) (@Value.int (.ofNat (nat_lit 47)) (nat_lit 487))), (@DictEntry.mk (@PyData.keyHash P (@Str.ofString "__init__")) (@Value.str (@Str.ofString "__init__") (nat_lit 496)) (@Value.ref (nat_lit 245))), (@DictEntry.mk (@PyData.keyHash P (@Str.ofString "__static_attributes__")) (@Value.str (@Str.ofString "__static_attributes__") (nat_lit 498)) (@Value.ref (nat_lit 246)))]) (nat_lit 5)) (.mk []))
def o235 (P : Params) : Obj := (@Obj.mk (@Value.type "tuple") none (@Data.seq (.mk []) (nat_lit 0)) (.mk []))
def o236 (P : Params) : Obj := (@Obj.mk Value.none none (@Data.fields (.mk [(@Value.int (.ofNat (nat_lit 49)) (nat_lit 0)), (@Value.int (.ofNat (nat_lit 4)) (nat_lit 0)), (@Value.ref (nat_lit 244))])) (.mk []))
def o237 (P : Params) : Obj := (@Obj.mk (@Value.type "code") none (@Data.fields (.mk [(@Value.str (@Str.ofString "NoHouse") (nat_lit 479)), (@Value.str (@Str.ofString "NoHouse") (nat_lit 480)), (@Value.str (@Str.ofString "/claim/cut.py") (nat_lit 481)), (@Value.int (.ofNat (nat_lit 47)) (nat_lit 0)), (@Value.int (.ofNat (nat_lit 0)) (nat_lit 0)), (@Value.int (.ofNat (nat_lit 0)) (nat_lit 0)), (@Value.int (.ofNat (nat_lit 0)) (nat_lit 0)), (@Value.int (.ofNat (nat_lit 0)) (nat_lit 0)), (@Value.ref (nat_lit 235)), (@Value.bool false), (@Value.int (.ofNat (nat_lit 181)) (nat_lit 0)), (@Value.ref (nat_lit 236)), Value.none, Value.none, Value.none, Value.none, (@Value.int (.ofNat (nat_lit 482)) (nat_lit 0)), (@Value.int (.ofNat (nat_lit 47)) (nat_lit 0)), (@Value.str (@Str.ofString "/claim/cut.py") (nat_lit 483))])) (.mk []))
def o238 (P : Params) : Obj := (@Obj.mk (@Value.type "frame") none Data.plain (.mk [(some (@Value.ref (nat_lit 237))), (some (@Value.ref (nat_lit 3))), (some (@Value.ref (nat_lit 234))), none, (some (@Value.str (@Str.ofString "menuhouses.errors") (nat_lit 194))), none, (some (@Value.ref (nat_lit 0)))]))
def o239 (P : Params) : Obj := (@Obj.mk (@Value.type "tuple") none (@Data.seq (.mk []) (nat_lit 0)) (.mk []))
def o240 (P : Params) : Obj := (@Obj.mk Value.none none (@Data.fields (.mk [])) (.mk []))
def o241 (P : Params) : Obj := (@Obj.mk (@Value.type "tuple") none (@Data.seq (.mk [(@Value.str (@Str.ofString "self") (nat_lit 492)), (@Value.str (@Str.ofString "menu") (nat_lit 493))]) (nat_lit 0)) (.mk []))
def o242 (P : Params) : Obj := (@Obj.mk (@Value.type "tuple") none (@Data.seq (.mk []) (nat_lit 0)) (.mk []))
def o243 (P : Params) : Obj := (@Obj.mk Value.none none (@Data.func (@FuncData.mk (@Str.ofString "__init__") (@Str.ofString "NoHouse.__init__") (defArgs (inClass (topS 14) 0)) (@FuncBody.stmts (defBody (inClass (topS 14) 0))) (defScope (inClass (topS 14) 0)) (nat_lit 0) [] Value.none Value.none Value.none Value.none none Value.none Value.none (nat_lit 0))) (.mk []))
def o244 (P : Params) : Obj := (@Obj.mk (@Value.type "code") none (@Data.fields (.mk [(@Value.str (@Str.ofString "__init__") (nat_lit 489)), (@Value.str (@Str.ofString "NoHouse.__init__") (nat_lit 490)), (@Value.str (@Str.ofString "/claim/cut.py") (nat_lit 491)), (@Value.int (.ofNat (nat_lit 49)) (nat_lit 0)), (@Value.int (.ofNat (nat_lit 2)) (nat_lit 0)), (@Value.int (.ofNat (nat_lit 0)) (nat_lit 0)), (@Value.int (.ofNat (nat_lit 0)) (nat_lit 0)), (@Value.int (.ofNat (nat_lit 3)) (nat_lit 0)), (@Value.ref (nat_lit 239)), (@Value.bool true), (@Value.int (.ofNat (nat_lit 181)) (nat_lit 0)), (@Value.ref (nat_lit 240)), Value.none, (@Value.ref (nat_lit 241)), (@Value.ref (nat_lit 242)), (@Value.ref (nat_lit 243)), (@Value.int (.ofNat (nat_lit 494)) (nat_lit 0)), (@Value.int (.ofNat (nat_lit 49)) (nat_lit 0)), (@Value.str (@Str.ofString "/claim/cut.py") (nat_lit 495))])) (.mk []))
def o245 (P : Params) : Obj := (@Obj.mk (@Value.type "function") none (@Data.func (@FuncData.mk (@Str.ofString "__init__") (@Str.ofString "NoHouse.__init__") (defArgs (inClass (topS 14) 0)) (@FuncBody.stmts (defBody (inClass (topS 14) 0))) (defScope (inClass (topS 14) 0)) (nat_lit 3) [] Value.none Value.none Value.none (@Value.str (@Str.ofString "menuhouses.errors") (nat_lit 194)) none (@Value.ref (nat_lit 244)) Value.none (nat_lit 0))) (.mk []))
def o246 (P : Params) : Obj := (@Obj.mk (@Value.type "tuple") none (@Data.seq (.mk [(@Value.str (@Str.ofString "menu") (nat_lit 497))]) (nat_lit 0)) (.mk []))
def o247 (P : Params) : Obj := (@Obj.mk (@Value.type "dict") none (@Data.dict (.mk [(@DictEntry.mk (@PyData.keyHash P (@Str.ofString "__module__")) (@Value.str (@Str.ofString "__module__") (nat_lit 484)) (@Value.str (@Str.ofString "menuhouses.errors") (nat_lit 194))), (@DictEntry.mk (@PyData.keyHash P (@Str.ofString "__firstlineno__")) (@Value.str (@Str.ofString "__firstlineno__") (nat_lit 488)) (@Value.int (.ofNat (nat_lit 47)) (nat_lit 487))), (@DictEntry.mk (@PyData.keyHash P (@Str.ofString "__init__")) (@Value.str (@Str.ofString "__init__") (nat_lit 496)) (@Value.ref (nat_lit 245))), (@DictEntry.mk (@PyData.keyHash P (@Str.ofString "__static_attributes__")) (@Value.str (@Str.ofString "__static_attributes__") (nat_lit 498)) (@Value.ref (nat_lit 246))), (@DictEntry.mk (@PyData.keyHash P (@Str.ofString "__doc__")) (@Value.str (@Str.ofString "__doc__") (nat_lit 499)) Value.none)]) (nat_lit 2)) (.mk []))
def o248 (P : Params) : Obj := (@Obj.mk (@Value.type "type") none (@Data.cls (@ClassData.mk (@Str.ofString "NoHouse") [(@Value.ref (nat_lit 209))] [(@Value.ref (nat_lit 248)), (@Value.ref (nat_lit 209)), (@Value.type "ArithmeticError"), (@Value.type "Exception"), (@Value.type "BaseException"), (@Value.type "object")] (nat_lit 247) (@Str.ofString "NoHouse") true [] [] false none false)) (.mk [(some (@Value.ref (nat_lit 232))), none, (some (@Value.str (@Str.ofString "NoHouse") (nat_lit 477))), (some (@Value.str (@Str.ofString "NoHouse") (nat_lit 485))), (some (@Value.builtin "ArithmeticError.__new__")), (some (@Value.bool true))]))
def o249 (P : Params) : Obj := (@Obj.mk (@Value.type "super") none (@Data.fields (.mk [(@Value.ref (nat_lit 248)), (@Value.ref (nat_lit 248)), (@Value.ref (nat_lit 248))])) (.mk []))
def o250 (P : Params) : Obj := (@Obj.mk (@Value.type "builtin_function_or_method") none (@Data.fields (.mk [(@Value.builtin "object.__init_subclass__"), (@Value.ref (nat_lit 248))])) (.mk []))
def o251 (P : Params) : Obj := (@Obj.mk (@Value.type "tuple") none (@Data.seq (.mk []) (nat_lit 0)) (.mk []))
def o252 (P : Params) : Obj := (@Obj.mk Value.none none (@Data.fields (.mk [])) (.mk []))
def o253 (P : Params) : Obj := (@Obj.mk (@Value.type "tuple") none (@Data.seq (.mk [(@Value.str (@Str.ofString "value") (nat_lit 517)), (@Value.str (@Str.ofString "many") (nat_lit 518))]) (nat_lit 0)) (.mk []))
def o254 (P : Params) : Obj := (@Obj.mk (@Value.type "tuple") none (@Data.seq (.mk []) (nat_lit 0)) (.mk []))
def o255 (P : Params) : Obj := (@Obj.mk Value.none none (@Data.func (@FuncData.mk (@Str.ofString "is_index") (@Str.ofString "is_index") (defArgs (topS 21)) (@FuncBody.stmts (defBody (topS 21))) (defScope (topS 21)) (nat_lit 0) [] Value.none Value.none Value.none Value.none none Value.none Value.none (nat_lit 0))) (.mk []))
def o256 (P : Params) : Obj := (@Obj.mk (@Value.type "code") none (@Data.fields (.mk [(@Value.str (@Str.ofString "is_index") (nat_lit 514)), (@Value.str (@Str.ofString "is_index") (nat_lit 515)), (@Value.str (@Str.ofString "/claim/cut.py") (nat_lit 516)), (@Value.int (.ofNat (nat_lit 57)) (nat_lit 0)), (@Value.int (.ofNat (nat_lit 2)) (nat_lit 0)), (@Value.int (.ofNat (nat_lit 0)) (nat_lit 0)), (@Value.int (.ofNat (nat_lit 0)) (nat_lit 0)), (@Value.int (.ofNat (nat_lit 3)) (nat_lit 0)), (@Value.ref (nat_lit 251)), (@Value.bool true), (@Value.int (.ofNat (nat_lit 181)) (nat_lit 0)), (@Value.ref (nat_lit 252)), Value.none, (@Value.ref (nat_lit 253)), (@Value.ref (nat_lit 254)), (@Value.ref (nat_lit 255)), (@Value.int (.ofNat (nat_lit 519)) (nat_lit 0)), (@Value.int (.ofNat (nat_lit 57)) (nat_lit 0)), (@Value.str (@Str.ofString "/claim/cut.py") (nat_lit 520))])) (.mk []))
def o257 (P : Params) : Obj := (@Obj.mk (@Value.type "function") none (@Data.func (@FuncData.mk (@Str.ofString "is_index") (@Str.ofString "is_index") (defArgs (topS 21)) (@FuncBody.stmts (defBody (topS 21))) (defScope (topS 21)) (nat_lit 3) [] Value.none Value.none Value.none (@Value.str (@Str.ofString "menuhouses.checks") (nat_lit 506)) none (@Value.ref (nat_lit 256)) Value.none (nat_lit 0))) (.mk []))
def o258 (P : Params) : Obj := (@Obj.mk (@Value.type "tuple") none (@Data.seq (.mk []) (nat_lit 0)) (.mk []))
def o259 (P : Params) : Obj := (@Obj.mk Value.none none (@Data.fields (.mk [])) (.mk []))
def o260 (P : Params) : Obj := (@Obj.mk Value.none none (@Data.func (@FuncData.mk (@Str.ofString "is_name") (@Str.ofString "is_name") (defArgs (topS 22)) (@FuncBody.stmts (defBody (topS 22))) (defScope (topS 22)) (nat_lit 0) [] Value.none Value.none Value.none Value.none none Value.none Value.none (nat_lit 0))) (.mk []))
def o261 (P : Params) : Obj := (@Obj.mk (@Value.type "code") none (@Data.fields (.mk [(@Value.str (@Str.ofString "is_name") (nat_lit 522)), (@Value.str (@Str.ofString "is_name") (nat_lit 523)), (@Value.str (@Str.ofString "/claim/cut.py") (nat_lit 524)), (@Value.int (.ofNat (nat_lit 59)) (nat_lit 0)), (@Value.int (.ofNat (nat_lit 1)) (nat_lit 0)), (@Value.int (.ofNat (nat_lit 0)) (nat_lit 0)), (@Value.int (.ofNat (nat_lit 0)) (nat_lit 0)), (@Value.int (.ofNat (nat_lit 3)) (nat_lit 0)), (@Value.ref (nat_lit 258)), (@Value.bool true), (@Value.int (.ofNat (nat_lit 181)) (nat_lit 0)), (@Value.ref (nat_lit 259)), Value.none, Value.none, Value.none, (@Value.ref (nat_lit 260)), (@Value.int (.ofNat (nat_lit 525)) (nat_lit 0)), (@Value.int (.ofNat (nat_lit 59)) (nat_lit 0)), (@Value.str (@Str.ofString "/claim/cut.py") (nat_lit 526))])) (.mk []))
def o262 (P : Params) : Obj := (@Obj.mk (@Value.type "function") none (@Data.func (@FuncData.mk (@Str.ofString "is_name") (@Str.ofString "is_name") (defArgs (topS 22)) (@FuncBody.stmts (defBody (topS 22))) (defScope (topS 22)) (nat_lit 3) [] Value.none Value.none Value.none (@Value.str (@Str.ofString "menuhouses.checks") (nat_lit 506)) none (@Value.ref (nat_lit 261)) Value.none (nat_lit 0))) (.mk []))
def o263 (P : Params) : Obj := (@Obj.mk (@Value.type "tuple") none (@Data.seq (.mk []) (nat_lit 0)) (.mk []))
def o264 (P : Params) : Obj := (@Obj.mk Value.none none (@Data.fields (.mk [])) (.mk []))
def o265 (P : Params) : Obj := (@Obj.mk (@Value.type "tuple") none (@Data.seq (.mk [(@Value.str (@Str.ofString "value") (nat_lit 531))]) (nat_lit 0)) (.mk []))
def o266 (P : Params) : Obj := (@Obj.mk (@Value.type "tuple") none (@Data.seq (.mk []) (nat_lit 0)) (.mk []))
def o267 (P : Params) : Obj := (@Obj.mk Value.none none (@Data.func (@FuncData.mk (@Str.ofString "is_filled_tuple") (@Str.ofString "is_filled_tuple") (defArgs (topS 23)) (@FuncBody.stmts (defBody (topS 23))) (defScope (topS 23)) (nat_lit 0) [] Value.none Value.none Value.none Value.none none Value.none Value.none (nat_lit 0))) (.mk []))
def o268 (P : Params) : Obj := (@Obj.mk (@Value.type "code") none (@Data.fields (.mk [(@Value.str (@Str.ofString "is_filled_tuple") (nat_lit 528)), (@Value.str (@Str.ofString "is_filled_tuple") (nat_lit 529)), (@Value.str (@Str.ofString "/claim/cut.py") (nat_lit 530)), (@Value.int (.ofNat (nat_lit 63)) (nat_lit 0)), (@Value.int (.ofNat (nat_lit 1)) (nat_lit 0)), (@Value.int (.ofNat (nat_lit 0)) (nat_lit 0)), (@Value.int (.ofNat (nat_lit 0)) (nat_lit 0)), (@Value.int (.ofNat (nat_lit 3)) (nat_lit 0)), (@Value.ref (nat_lit 263)), (@Value.bool true), (@Value.int (.ofNat (nat_lit 181)) (nat_lit 0)), (@Value.ref (nat_lit 264)), Value.none, (@Value.ref (nat_lit 265)), (@Value.ref (nat_lit 266)), (@Value.ref (nat_lit 267)), (@Value.int (.ofNat (nat_lit 532)) (nat_lit 0)), (@Value.int (.ofNat (nat_lit 63)) (nat_lit 0)), (@Value.str (@Str.ofString "/claim/cut.py") (nat_lit 533))])) (.mk []))
def o269 (P : Params) : Obj := (@Obj.mk (@Value.type "function") none (@Data.func (@FuncData.mk (@Str.ofString "is_filled_tuple") (@Str.ofString "is_filled_tuple") (defArgs (topS 23)) (@FuncBody.stmts (defBody (topS 23))) (defScope (topS 23)) (nat_lit 3) [] Value.none Value.none Value.none (@Value.str (@Str.ofString "menuhouses.checks") (nat_lit 506)) none (@Value.ref (nat_lit 268)) Value.none (nat_lit 0))) (.mk []))
def o270 (P : Params) : Obj := (@Obj.mk (@Value.type "tuple") none (@Data.seq (.mk []) (nat_lit 0)) (.mk []))
def o271 (P : Params) : Obj := (@Obj.mk Value.none none (@Data.fields (.mk [])) (.mk []))
def o272 (P : Params) : Obj := (@Obj.mk (@Value.type "tuple") none (@Data.seq (.mk [(@Value.str (@Str.ofString "value") (nat_lit 538)), (@Value.str (@Str.ofString "things") (nat_lit 539))]) (nat_lit 0)) (.mk []))
def o273 (P : Params) : Obj := (@Obj.mk (@Value.type "tuple") none (@Data.seq (.mk []) (nat_lit 0)) (.mk []))
def o274 (P : Params) : Obj := (@Obj.mk Value.none none (@Data.func (@FuncData.mk (@Str.ofString "is_one_of") (@Str.ofString "is_one_of") (defArgs (topS 24)) (@FuncBody.stmts (defBody (topS 24))) (defScope (topS 24)) (nat_lit 0) [] Value.none Value.none Value.none Value.none none Value.none Value.none (nat_lit 0))) (.mk []))
def o275 (P : Params) : Obj := (@Obj.mk (@Value.type "code") none (@Data.fields (.mk [(@Value.str (@Str.ofString "is_one_of") (nat_lit 535)), (@Value.str (@Str.ofString "is_one_of") (nat_lit 536)), (@Value.str (@Str.ofString "/claim/cut.py") (nat_lit 537)), (@Value.int (.ofNat (nat_lit 65)) (nat_lit 0)), (@Value.int (.ofNat (nat_lit 2)) (nat_lit 0)), (@Value.int (.ofNat (nat_lit 0)) (nat_lit 0)), (@Value.int (.ofNat (nat_lit 0)) (nat_lit 0)), (@Value.int (.ofNat (nat_lit 3)) (nat_lit 0)), (@Value.ref (nat_lit 270)), (@Value.bool true), (@Value.int (.ofNat (nat_lit 181)) (nat_lit 0)), (@Value.ref (nat_lit 271)), Value.none, (@Value.ref (nat_lit 272)), (@Value.ref (nat_lit 273)), (@Value.ref (nat_lit 274)), (@Value.int (.ofNat (nat_lit 540)) (nat_lit 0)), (@Value.int (.ofNat (nat_lit 65)) (nat_lit 0)), (@Value.str (@Str.ofString "/claim/cut.py") (nat_lit 541))])) (.mk []))
def o276 (P : Params) : Obj := (@Obj.mk (@Value.type "function") none (@Data.func (@FuncData.mk (@Str.ofString "is_one_of") (@Str.ofString "is_one_of") (defArgs (topS 24)) (@FuncBody.stmts (defBody (topS 24))) (defScope (topS 24)) (nat_lit 3) [] Value.none Value.none Value.none (@Value.str (@Str.ofString "menuhouses.checks") (nat_lit 506)) none (@Value.ref (nat_lit 275)) Value.none (nat_lit 0))) (.mk []))
def o277 (P : Params) : Obj := (@Obj.mk (@Value.type "tuple") none (@Data.seq (.mk []) (nat_lit 0)) (.mk []))
def o278 (P : Params) : Obj := (@Obj.mk Value.none none (@Data.fields (.mk [])) (.mk []))
def o279 (P : Params) : Obj := (@Obj.mk (@Value.type "tuple") none (@Data.seq (.mk [(@Value.str (@Str.ofString "row") (nat_lit 546)), (@Value.str (@Str.ofString "at") (nat_lit 547)), (@Value.str (@Str.ofString "name") (nat_lit 548))]) (nat_lit 0)) (.mk []))
def o280 (P : Params) : Obj := (@Obj.mk (@Value.type "tuple") none (@Data.seq (.mk []) (nat_lit 0)) (.mk []))
def o281 (P : Params) : Obj := (@Obj.mk Value.none none (@Data.func (@FuncData.mk (@Str.ofString "first_wrong_in_row") (@Str.ofString "first_wrong_in_row") (defArgs (topS 25)) (@FuncBody.stmts (defBody (topS 25))) (defScope (topS 25)) (nat_lit 0) [] Value.none Value.none Value.none Value.none none Value.none Value.none (nat_lit 0))) (.mk []))
def o282 (P : Params) : Obj := (@Obj.mk (@Value.type "code") none (@Data.fields (.mk [(@Value.str (@Str.ofString "first_wrong_in_row") (nat_lit 543)), (@Value.str (@Str.ofString "first_wrong_in_row") (nat_lit 544)), (@Value.str (@Str.ofString "/claim/cut.py") (nat_lit 545)), (@Value.int (.ofNat (nat_lit 67)) (nat_lit 0)), (@Value.int (.ofNat (nat_lit 1)) (nat_lit 0)), (@Value.int (.ofNat (nat_lit 0)) (nat_lit 0)), (@Value.int (.ofNat (nat_lit 0)) (nat_lit 0)), (@Value.int (.ofNat (nat_lit 3)) (nat_lit 0)), (@Value.ref (nat_lit 277)), (@Value.bool true), (@Value.int (.ofNat (nat_lit 181)) (nat_lit 0)), (@Value.ref (nat_lit 278)), Value.none, (@Value.ref (nat_lit 279)), (@Value.ref (nat_lit 280)), (@Value.ref (nat_lit 281)), (@Value.int (.ofNat (nat_lit 549)) (nat_lit 0)), (@Value.int (.ofNat (nat_lit 67)) (nat_lit 0)), (@Value.str (@Str.ofString "/claim/cut.py") (nat_lit 550))])) (.mk []))
def o283 (P : Params) : Obj := (@Obj.mk (@Value.type "function") none (@Data.func (@FuncData.mk (@Str.ofString "first_wrong_in_row") (@Str.ofString "first_wrong_in_row") (defArgs (topS 25)) (@FuncBody.stmts (defBody (topS 25))) (defScope (topS 25)) (nat_lit 3) [] Value.none Value.none Value.none (@Value.str (@Str.ofString "menuhouses.checks") (nat_lit 506)) none (@Value.ref (nat_lit 282)) Value.none (nat_lit 0))) (.mk []))
def o284 (P : Params) : Obj := (@Obj.mk (@Value.type "tuple") none (@Data.seq (.mk []) (nat_lit 0)) (.mk []))
def o285 (P : Params) : Obj := (@Obj.mk Value.none none (@Data.fields (.mk [])) (.mk []))
def o286 (P : Params) : Obj := (@Obj.mk (@Value.type "tuple") none (@Data.seq (.mk [(@Value.str (@Str.ofString "menu") (nat_lit 555)), (@Value.str (@Str.ofString "things") (nat_lit 556)), (@Value.str (@Str.ofString "at") (nat_lit 557)), (@Value.str (@Str.ofString "thing") (nat_lit 558))]) (nat_lit 0)) (.mk []))
def o287 (P : Params) : Obj := (@Obj.mk (@Value.type "tuple") none (@Data.seq (.mk []) (nat_lit 0)) (.mk []))
def o288 (P : Params) : Obj := (@Obj.mk Value.none none (@Data.func (@FuncData.mk (@Str.ofString "first_wrong_on_menu") (@Str.ofString "first_wrong_on_menu") (defArgs (topS 26)) (@FuncBody.stmts (defBody (topS 26))) (defScope (topS 26)) (nat_lit 0) [] Value.none Value.none Value.none Value.none none Value.none Value.none (nat_lit 0))) (.mk []))
def o289 (P : Params) : Obj := (@Obj.mk (@Value.type "code") none (@Data.fields (.mk [(@Value.str (@Str.ofString "first_wrong_on_menu") (nat_lit 552)), (@Value.str (@Str.ofString "first_wrong_on_menu") (nat_lit 553)), (@Value.str (@Str.ofString "/claim/cut.py") (nat_lit 554)), (@Value.int (.ofNat (nat_lit 72)) (nat_lit 0)), (@Value.int (.ofNat (nat_lit 2)) (nat_lit 0)), (@Value.int (.ofNat (nat_lit 0)) (nat_lit 0)), (@Value.int (.ofNat (nat_lit 0)) (nat_lit 0)), (@Value.int (.ofNat (nat_lit 3)) (nat_lit 0)), (@Value.ref (nat_lit 284)), (@Value.bool true), (@Value.int (.ofNat (nat_lit 181)) (nat_lit 0)), (@Value.ref (nat_lit 285)), Value.none, (@Value.ref (nat_lit 286)), (@Value.ref (nat_lit 287)), (@Value.ref (nat_lit 288)), (@Value.int (.ofNat (nat_lit 559)) (nat_lit 0)), (@Value.int (.ofNat (nat_lit 72)) (nat_lit 0)), (@Value.str (@Str.ofString "/claim/cut.py") (nat_lit 560))])) (.mk []))
def o290 (P : Params) : Obj := (@Obj.mk (@Value.type "function") none (@Data.func (@FuncData.mk (@Str.ofString "first_wrong_on_menu") (@Str.ofString "first_wrong_on_menu") (defArgs (topS 26)) (@FuncBody.stmts (defBody (topS 26))) (defScope (topS 26)) (nat_lit 3) [] Value.none Value.none Value.none (@Value.str (@Str.ofString "menuhouses.checks") (nat_lit 506)) none (@Value.ref (nat_lit 289)) Value.none (nat_lit 0))) (.mk []))
def o291 (P : Params) : Obj := (@Obj.mk (@Value.type "tuple") none (@Data.seq (.mk []) (nat_lit 0)) (.mk []))
def o292 (P : Params) : Obj := (@Obj.mk Value.none none (@Data.fields (.mk [])) (.mk []))
def o293 (P : Params) : Obj := (@Obj.mk (@Value.type "tuple") none (@Data.seq (.mk [(@Value.str (@Str.ofString "row") (nat_lit 565)), (@Value.str (@Str.ofString "wrong") (nat_lit 566))]) (nat_lit 0)) (.mk []))
def o294 (P : Params) : Obj := (@Obj.mk (@Value.type "tuple") none (@Data.seq (.mk []) (nat_lit 0)) (.mk []))
def o295 (P : Params) : Obj := (@Obj.mk Value.none none (@Data.func (@FuncData.mk (@Str.ofString "check_row") (@Str.ofString "check_row") (defArgs (topS 27)) (@FuncBody.stmts (defBody (topS 27))) (defScope (topS 27)) (nat_lit 0) [] Value.none Value.none Value.none Value.none none Value.none Value.none (nat_lit 0))) (.mk []))
def o296 (P : Params) : Obj := (@Obj.mk (@Value.type "code") none (@Data.fields (.mk [(@Value.str (@Str.ofString "check_row") (nat_lit 562)), (@Value.str (@Str.ofString "check_row") (nat_lit 563)), (@Value.str (@Str.ofString "/claim/cut.py") (nat_lit 564)), (@Value.int (.ofNat (nat_lit 79)) (nat_lit 0)), (@Value.int (.ofNat (nat_lit 1)) (nat_lit 0)), (@Value.int (.ofNat (nat_lit 0)) (nat_lit 0)), (@Value.int (.ofNat (nat_lit 0)) (nat_lit 0)), (@Value.int (.ofNat (nat_lit 3)) (nat_lit 0)), (@Value.ref (nat_lit 291)), (@Value.bool true), (@Value.int (.ofNat (nat_lit 181)) (nat_lit 0)), (@Value.ref (nat_lit 292)), Value.none, (@Value.ref (nat_lit 293)), (@Value.ref (nat_lit 294)), (@Value.ref (nat_lit 295)), (@Value.int (.ofNat (nat_lit 567)) (nat_lit 0)), (@Value.int (.ofNat (nat_lit 79)) (nat_lit 0)), (@Value.str (@Str.ofString "/claim/cut.py") (nat_lit 568))])) (.mk []))
def o297 (P : Params) : Obj := (@Obj.mk (@Value.type "function") none (@Data.func (@FuncData.mk (@Str.ofString "check_row") (@Str.ofString "check_row") (defArgs (topS 27)) (@FuncBody.stmts (defBody (topS 27))) (defScope (topS 27)) (nat_lit 3) [] Value.none Value.none Value.none (@Value.str (@Str.ofString "menuhouses.checks") (nat_lit 506)) none (@Value.ref (nat_lit 296)) Value.none (nat_lit 0))) (.mk []))
def o298 (P : Params) : Obj := (@Obj.mk (@Value.type "tuple") none (@Data.seq (.mk []) (nat_lit 0)) (.mk []))
def o299 (P : Params) : Obj := (@Obj.mk Value.none none (@Data.fields (.mk [])) (.mk []))
def o300 (P : Params) : Obj := (@Obj.mk (@Value.type "tuple") none (@Data.seq (.mk [(@Value.str (@Str.ofString "menu") (nat_lit 573)), (@Value.str (@Str.ofString "things") (nat_lit 574)), (@Value.str (@Str.ofString "wrong") (nat_lit 575))]) (nat_lit 0)) (.mk []))
def o301 (P : Params) : Obj := (@Obj.mk (@Value.type "tuple") none (@Data.seq (.mk []) (nat_lit 0)) (.mk []))
def o302 (P : Params) : Obj := (@Obj.mk Value.none none (@Data.func (@FuncData.mk (@Str.ofString "check_menu") (@Str.ofString "check_menu") (defArgs (topS 28)) (@FuncBody.stmts (defBody (topS 28))) (defScope (topS 28)) (nat_lit 0) [] Value.none Value.none Value.none Value.none none Value.none Value.none (nat_lit 0))) (.mk []))
def o303 (P : Params) : Obj := (@Obj.mk (@Value.type "code") none (@Data.fields (.mk [(@Value.str (@Str.ofString "check_menu") (nat_lit 570)), (@Value.str (@Str.ofString "check_menu") (nat_lit 571)), (@Value.str (@Str.ofString "/claim/cut.py") (nat_lit 572)), (@Value.int (.ofNat (nat_lit 85)) (nat_lit 0)), (@Value.int (.ofNat (nat_lit 2)) (nat_lit 0)), (@Value.int (.ofNat (nat_lit 0)) (nat_lit 0)), (@Value.int (.ofNat (nat_lit 0)) (nat_lit 0)), (@Value.int (.ofNat (nat_lit 3)) (nat_lit 0)), (@Value.ref (nat_lit 298)), (@Value.bool true), (@Value.int (.ofNat (nat_lit 181)) (nat_lit 0)), (@Value.ref (nat_lit 299)), Value.none, (@Value.ref (nat_lit 300)), (@Value.ref (nat_lit 301)), (@Value.ref (nat_lit 302)), (@Value.int (.ofNat (nat_lit 576)) (nat_lit 0)), (@Value.int (.ofNat (nat_lit 85)) (nat_lit 0)), (@Value.str (@Str.ofString "/claim/cut.py") (nat_lit 577))])) (.mk []))
def o304 (P : Params) : Obj := (@Obj.mk (@Value.type "function") none (@Data.func (@FuncData.mk (@Str.ofString "check_menu") (@Str.ofString "check_menu") (defArgs (topS 28)) (@FuncBody.stmts (defBody (topS 28))) (defScope (topS 28)) (nat_lit 3) [] Value.none Value.none Value.none (@Value.str (@Str.ofString "menuhouses.checks") (nat_lit 506)) none (@Value.ref (nat_lit 303)) Value.none (nat_lit 0))) (.mk []))
def o305 (P : Params) : Obj := (@Obj.mk (@Value.type "tuple") none (@Data.seq (.mk []) (nat_lit 0)) (.mk []))
def o306 (P : Params) : Obj := (@Obj.mk Value.none none (@Data.fields (.mk [])) (.mk []))
def o307 (P : Params) : Obj := (@Obj.mk (@Value.type "tuple") none (@Data.seq (.mk [(@Value.str (@Str.ofString "thing") (nat_lit 582)), (@Value.str (@Str.ofString "things") (nat_lit 583))]) (nat_lit 0)) (.mk []))
def o308 (P : Params) : Obj := (@Obj.mk (@Value.type "tuple") none (@Data.seq (.mk []) (nat_lit 0)) (.mk []))
def o309 (P : Params) : Obj := (@Obj.mk Value.none none (@Data.func (@FuncData.mk (@Str.ofString "check_thing") (@Str.ofString "check_thing") (defArgs (topS 29)) (@FuncBody.stmts (defBody (topS 29))) (defScope (topS 29)) (nat_lit 0) [] Value.none Value.none Value.none Value.none none Value.none Value.none (nat_lit 0))) (.mk []))
def o310 (P : Params) : Obj := (@Obj.mk (@Value.type "code") none (@Data.fields (.mk [(@Value.str (@Str.ofString "check_thing") (nat_lit 579)), (@Value.str (@Str.ofString "check_thing") (nat_lit 580)), (@Value.str (@Str.ofString "/claim/cut.py") (nat_lit 581)), (@Value.int (.ofNat (nat_lit 91)) (nat_lit 0)), (@Value.int (.ofNat (nat_lit 2)) (nat_lit 0)), (@Value.int (.ofNat (nat_lit 0)) (nat_lit 0)), (@Value.int (.ofNat (nat_lit 0)) (nat_lit 0)), (@Value.int (.ofNat (nat_lit 3)) (nat_lit 0)), (@Value.ref (nat_lit 305)), (@Value.bool true), (@Value.int (.ofNat (nat_lit 181)) (nat_lit 0)), (@Value.ref (nat_lit 306)), Value.none, (@Value.ref (nat_lit 307)), (@Value.ref (nat_lit 308)), (@Value.ref (nat_lit 309)), (@Value.int (.ofNat (nat_lit 584)) (nat_lit 0)), (@Value.int (.ofNat (nat_lit 91)) (nat_lit 0)), (@Value.str (@Str.ofString "/claim/cut.py") (nat_lit 585))])) (.mk []))
def o311 (P : Params) : Obj := (@Obj.mk (@Value.type "function") none (@Data.func (@FuncData.mk (@Str.ofString "check_thing") (@Str.ofString "check_thing") (defArgs (topS 29)) (@FuncBody.stmts (defBody (topS 29))) (defScope (topS 29)) (nat_lit 3) [] Value.none Value.none Value.none (@Value.str (@Str.ofString "menuhouses.checks") (nat_lit 506)) none (@Value.ref (nat_lit 310)) Value.none (nat_lit 0))) (.mk []))
def o312 (P : Params) : Obj := (@Obj.mk (@Value.type "tuple") none (@Data.seq (.mk []) (nat_lit 0)) (.mk []))
def o313 (P : Params) : Obj := (@Obj.mk Value.none none (@Data.fields (.mk [])) (.mk []))
def o314 (P : Params) : Obj := (@Obj.mk (@Value.type "tuple") none (@Data.seq (.mk [(@Value.str (@Str.ofString "many") (nat_lit 592))]) (nat_lit 0)) (.mk []))
def o315 (P : Params) : Obj := (@Obj.mk (@Value.type "tuple") none (@Data.seq (.mk []) (nat_lit 0)) (.mk []))
def o316 (P : Params) : Obj := (@Obj.mk Value.none none (@Data.func (@FuncData.mk (@Str.ofString "mask_of_all") (@Str.ofString "mask_of_all") (defArgs (topS 31)) (@FuncBody.stmts (defBody (topS 31))) (defScope (topS 31)) (nat_lit 0) [] Value.none Value.none Value.none Value.none none Value.none Value.none (nat_lit 0))) (.mk []))
def o317 (P : Params) : Obj := (@Obj.mk (@Value.type "code") none (@Data.fields (.mk [(@Value.str (@Str.ofString "mask_of_all") (nat_lit 589)), (@Value.str (@Str.ofString "mask_of_all") (nat_lit 590)), (@Value.str (@Str.ofString "/claim/cut.py") (nat_lit 591)), (@Value.int (.ofNat (nat_lit 95)) (nat_lit 0)), (@Value.int (.ofNat (nat_lit 1)) (nat_lit 0)), (@Value.int (.ofNat (nat_lit 0)) (nat_lit 0)), (@Value.int (.ofNat (nat_lit 0)) (nat_lit 0)), (@Value.int (.ofNat (nat_lit 3)) (nat_lit 0)), (@Value.ref (nat_lit 312)), (@Value.bool true), (@Value.int (.ofNat (nat_lit 181)) (nat_lit 0)), (@Value.ref (nat_lit 313)), Value.none, (@Value.ref (nat_lit 314)), (@Value.ref (nat_lit 315)), (@Value.ref (nat_lit 316)), (@Value.int (.ofNat (nat_lit 593)) (nat_lit 0)), (@Value.int (.ofNat (nat_lit 95)) (nat_lit 0)), (@Value.str (@Str.ofString "/claim/cut.py") (nat_lit 594))])) (.mk []))
def o318 (P : Params) : Obj := (@Obj.mk (@Value.type "function") none (@Data.func (@FuncData.mk (@Str.ofString "mask_of_all") (@Str.ofString "mask_of_all") (defArgs (topS 31)) (@FuncBody.stmts (defBody (topS 31))) (defScope (topS 31)) (nat_lit 3) [] Value.none Value.none Value.none (@Value.str (@Str.ofString "menuhouses.masks") (nat_lit 587)) none (@Value.ref (nat_lit 317)) Value.none (nat_lit 0))) (.mk []))
def o319 (P : Params) : Obj := (@Obj.mk (@Value.type "tuple") none (@Data.seq (.mk []) (nat_lit 0)) (.mk []))
def o320 (P : Params) : Obj := (@Obj.mk Value.none none (@Data.fields (.mk [])) (.mk []))
def o321 (P : Params) : Obj := (@Obj.mk Value.none none (@Data.func (@FuncData.mk (@Str.ofString "index_of") (@Str.ofString "index_of") (defArgs (topS 32)) (@FuncBody.stmts (defBody (topS 32))) (defScope (topS 32)) (nat_lit 0) [] Value.none Value.none Value.none Value.none none Value.none Value.none (nat_lit 0))) (.mk []))
def o322 (P : Params) : Obj := (@Obj.mk (@Value.type "code") none (@Data.fields (.mk [(@Value.str (@Str.ofString "index_of") (nat_lit 596)), (@Value.str (@Str.ofString "index_of") (nat_lit 597)), (@Value.str (@Str.ofString "/claim/cut.py") (nat_lit 598)), (@Value.int (.ofNat (nat_lit 97)) (nat_lit 0)), (@Value.int (.ofNat (nat_lit 2)) (nat_lit 0)), (@Value.int (.ofNat (nat_lit 0)) (nat_lit 0)), (@Value.int (.ofNat (nat_lit 0)) (nat_lit 0)), (@Value.int (.ofNat (nat_lit 3)) (nat_lit 0)), (@Value.ref (nat_lit 319)), (@Value.bool true), (@Value.int (.ofNat (nat_lit 181)) (nat_lit 0)), (@Value.ref (nat_lit 320)), Value.none, Value.none, Value.none, (@Value.ref (nat_lit 321)), (@Value.int (.ofNat (nat_lit 599)) (nat_lit 0)), (@Value.int (.ofNat (nat_lit 97)) (nat_lit 0)), (@Value.str (@Str.ofString "/claim/cut.py") (nat_lit 600))])) (.mk []))
def o323 (P : Params) : Obj := (@Obj.mk (@Value.type "function") none (@Data.func (@FuncData.mk (@Str.ofString "index_of") (@Str.ofString "index_of") (defArgs (topS 32)) (@FuncBody.stmts (defBody (topS 32))) (defScope (topS 32)) (nat_lit 3) [] Value.none Value.none Value.none (@Value.str (@Str.ofString "menuhouses.masks") (nat_lit 587)) none (@Value.ref (nat_lit 322)) Value.none (nat_lit 0))) (.mk []))
def o324 (P : Params) : Obj := (@Obj.mk (@Value.type "tuple") none (@Data.seq (.mk []) (nat_lit 0)) (.mk []))
def o325 (P : Params) : Obj := (@Obj.mk Value.none none (@Data.fields (.mk [])) (.mk []))
def o326 (P : Params) : Obj := (@Obj.mk (@Value.type "tuple") none (@Data.seq (.mk [(@Value.str (@Str.ofString "names") (nat_lit 605)), (@Value.str (@Str.ofString "things") (nat_lit 606)), (@Value.str (@Str.ofString "mask") (nat_lit 607)), (@Value.str (@Str.ofString "name") (nat_lit 608))]) (nat_lit 0)) (.mk []))
def o327 (P : Params) : Obj := (@Obj.mk (@Value.type "tuple") none (@Data.seq (.mk []) (nat_lit 0)) (.mk []))
def o328 (P : Params) : Obj := (@Obj.mk Value.none none (@Data.func (@FuncData.mk (@Str.ofString "mask_of") (@Str.ofString "mask_of") (defArgs (topS 33)) (@FuncBody.stmts (defBody (topS 33))) (defScope (topS 33)) (nat_lit 0) [] Value.none Value.none Value.none Value.none none Value.none Value.none (nat_lit 0))) (.mk []))
def o329 (P : Params) : Obj := (@Obj.mk (@Value.type "code") none (@Data.fields (.mk [(@Value.str (@Str.ofString "mask_of") (nat_lit 602)), (@Value.str (@Str.ofString "mask_of") (nat_lit 603)), (@Value.str (@Str.ofString "/claim/cut.py") (nat_lit 604)), (@Value.int (.ofNat (nat_lit 99)) (nat_lit 0)), (@Value.int (.ofNat (nat_lit 2)) (nat_lit 0)), (@Value.int (.ofNat (nat_lit 0)) (nat_lit 0)), (@Value.int (.ofNat (nat_lit 0)) (nat_lit 0)), (@Value.int (.ofNat (nat_lit 3)) (nat_lit 0)), (@Value.ref (nat_lit 324)), (@Value.bool true), (@Value.int (.ofNat (nat_lit 181)) (nat_lit 0)), (@Value.ref (nat_lit 325)), Value.none, (@Value.ref (nat_lit 326)), (@Value.ref (nat_lit 327)), (@Value.ref (nat_lit 328)), (@Value.int (.ofNat (nat_lit 609)) (nat_lit 0)), (@Value.int (.ofNat (nat_lit 99)) (nat_lit 0)), (@Value.str (@Str.ofString "/claim/cut.py") (nat_lit 610))])) (.mk []))
def o330 (P : Params) : Obj := (@Obj.mk (@Value.type "function") none (@Data.func (@FuncData.mk (@Str.ofString "mask_of") (@Str.ofString "mask_of") (defArgs (topS 33)) (@FuncBody.stmts (defBody (topS 33))) (defScope (topS 33)) (nat_lit 3) [] Value.none Value.none Value.none (@Value.str (@Str.ofString "menuhouses.masks") (nat_lit 587)) none (@Value.ref (nat_lit 329)) Value.none (nat_lit 0))) (.mk []))
def o331 (P : Params) : Obj := (@Obj.mk (@Value.type "tuple") none (@Data.seq (.mk []) (nat_lit 0)) (.mk []))
def o332 (P : Params) : Obj := (@Obj.mk Value.none none (@Data.fields (.mk [])) (.mk []))
def o333 (P : Params) : Obj := (@Obj.mk Value.none none (@Data.func (@FuncData.mk (@Str.ofString "indexes_of") (@Str.ofString "indexes_of") (defArgs (topS 34)) (@FuncBody.stmts (defBody (topS 34))) (defScope (topS 34)) (nat_lit 0) [] Value.none Value.none Value.none Value.none none Value.none Value.none (nat_lit 0))) (.mk []))
def o334 (P : Params) : Obj := (@Obj.mk (@Value.type "code") none (@Data.fields (.mk [(@Value.str (@Str.ofString "indexes_of") (nat_lit 612)), (@Value.str (@Str.ofString "indexes_of") (nat_lit 613)), (@Value.str (@Str.ofString "/claim/cut.py") (nat_lit 614)), (@Value.int (.ofNat (nat_lit 104)) (nat_lit 0)), (@Value.int (.ofNat (nat_lit 1)) (nat_lit 0)), (@Value.int (.ofNat (nat_lit 0)) (nat_lit 0)), (@Value.int (.ofNat (nat_lit 0)) (nat_lit 0)), (@Value.int (.ofNat (nat_lit 3)) (nat_lit 0)), (@Value.ref (nat_lit 331)), (@Value.bool true), (@Value.int (.ofNat (nat_lit 181)) (nat_lit 0)), (@Value.ref (nat_lit 332)), Value.none, Value.none, Value.none, (@Value.ref (nat_lit 333)), (@Value.int (.ofNat (nat_lit 615)) (nat_lit 0)), (@Value.int (.ofNat (nat_lit 104)) (nat_lit 0)), (@Value.str (@Str.ofString "/claim/cut.py") (nat_lit 616))])) (.mk []))
def o335 (P : Params) : Obj := (@Obj.mk (@Value.type "function") none (@Data.func (@FuncData.mk (@Str.ofString "indexes_of") (@Str.ofString "indexes_of") (defArgs (topS 34)) (@FuncBody.stmts (defBody (topS 34))) (defScope (topS 34)) (nat_lit 3) [] Value.none Value.none Value.none (@Value.str (@Str.ofString "menuhouses.masks") (nat_lit 587)) none (@Value.ref (nat_lit 334)) Value.none (nat_lit 0))) (.mk []))
def o336 (P : Params) : Obj := (@Obj.mk (@Value.type "tuple") none (@Data.seq (.mk []) (nat_lit 0)) (.mk []))
def o337 (P : Params) : Obj := (@Obj.mk Value.none none (@Data.fields (.mk [])) (.mk []))
def o338 (P : Params) : Obj := (@Obj.mk Value.none none (@Data.func (@FuncData.mk (@Str.ofString "names_of") (@Str.ofString "names_of") (defArgs (topS 35)) (@FuncBody.stmts (defBody (topS 35))) (defScope (topS 35)) (nat_lit 0) [] Value.none Value.none Value.none Value.none none Value.none Value.none (nat_lit 0))) (.mk []))
def o339 (P : Params) : Obj := (@Obj.mk (@Value.type "code") none (@Data.fields (.mk [(@Value.str (@Str.ofString "names_of") (nat_lit 618)), (@Value.str (@Str.ofString "names_of") (nat_lit 619)), (@Value.str (@Str.ofString "/claim/cut.py") (nat_lit 620)), (@Value.int (.ofNat (nat_lit 106)) (nat_lit 0)), (@Value.int (.ofNat (nat_lit 2)) (nat_lit 0)), (@Value.int (.ofNat (nat_lit 0)) (nat_lit 0)), (@Value.int (.ofNat (nat_lit 0)) (nat_lit 0)), (@Value.int (.ofNat (nat_lit 3)) (nat_lit 0)), (@Value.ref (nat_lit 336)), (@Value.bool true), (@Value.int (.ofNat (nat_lit 181)) (nat_lit 0)), (@Value.ref (nat_lit 337)), Value.none, Value.none, Value.none, (@Value.ref (nat_lit 338)), (@Value.int (.ofNat (nat_lit 621)) (nat_lit 0)), (@Value.int (.ofNat (nat_lit 106)) (nat_lit 0)), (@Value.str (@Str.ofString "/claim/cut.py") (nat_lit 622))])) (.mk []))
def o340 (P : Params) : Obj := (@Obj.mk (@Value.type "function") none (@Data.func (@FuncData.mk (@Str.ofString "names_of") (@Str.ofString "names_of") (defArgs (topS 35)) (@FuncBody.stmts (defBody (topS 35))) (defScope (topS 35)) (nat_lit 3) [] Value.none Value.none Value.none (@Value.str (@Str.ofString "menuhouses.masks") (nat_lit 587)) none (@Value.ref (nat_lit 339)) Value.none (nat_lit 0))) (.mk []))
def o341 (P : Params) : Obj := (@Obj.mk (@Value.type "tuple") none (@Data.seq (.mk []) (nat_lit 0)) (.mk []))
def o342 (P : Params) : Obj := (@Obj.mk Value.none none (@Data.fields (.mk [])) (.mk []))
def o343 (P : Params) : Obj := (@Obj.mk Value.none none (@Data.func (@FuncData.mk (@Str.ofString "below_masks") (@Str.ofString "below_masks") (defArgs (topS 36)) (@FuncBody.stmts (defBody (topS 36))) (defScope (topS 36)) (nat_lit 0) [] Value.none Value.none Value.none Value.none none Value.none Value.none (nat_lit 0))) (.mk []))
def o344 (P : Params) : Obj := (@Obj.mk (@Value.type "code") none (@Data.fields (.mk [(@Value.str (@Str.ofString "below_masks") (nat_lit 624)), (@Value.str (@Str.ofString "below_masks") (nat_lit 625)), (@Value.str (@Str.ofString "/claim/cut.py") (nat_lit 626)), (@Value.int (.ofNat (nat_lit 108)) (nat_lit 0)), (@Value.int (.ofNat (nat_lit 2)) (nat_lit 0)), (@Value.int (.ofNat (nat_lit 0)) (nat_lit 0)), (@Value.int (.ofNat (nat_lit 0)) (nat_lit 0)), (@Value.int (.ofNat (nat_lit 3)) (nat_lit 0)), (@Value.ref (nat_lit 341)), (@Value.bool true), (@Value.int (.ofNat (nat_lit 181)) (nat_lit 0)), (@Value.ref (nat_lit 342)), Value.none, Value.none, Value.none, (@Value.ref (nat_lit 343)), (@Value.int (.ofNat (nat_lit 627)) (nat_lit 0)), (@Value.int (.ofNat (nat_lit 108)) (nat_lit 0)), (@Value.str (@Str.ofString "/claim/cut.py") (nat_lit 628))])) (.mk []))
def o345 (P : Params) : Obj := (@Obj.mk (@Value.type "function") none (@Data.func (@FuncData.mk (@Str.ofString "below_masks") (@Str.ofString "below_masks") (defArgs (topS 36)) (@FuncBody.stmts (defBody (topS 36))) (defScope (topS 36)) (nat_lit 3) [] Value.none Value.none Value.none (@Value.str (@Str.ofString "menuhouses.masks") (nat_lit 587)) none (@Value.ref (nat_lit 344)) Value.none (nat_lit 0))) (.mk []))
def o346 (P : Params) : Obj := (@Obj.mk (@Value.type "tuple") none (@Data.seq (.mk []) (nat_lit 0)) (.mk []))
def o347 (P : Params) : Obj := (@Obj.mk Value.none none (@Data.fields (.mk [])) (.mk []))
def o348 (P : Params) : Obj := (@Obj.mk (@Value.type "tuple") none (@Data.seq (.mk [(@Value.str (@Str.ofString "mask") (nat_lit 633)), (@Value.str (@Str.ofString "masks") (nat_lit 634)), (@Value.str (@Str.ofString "other") (nat_lit 635))]) (nat_lit 0)) (.mk []))
def o349 (P : Params) : Obj := (@Obj.mk (@Value.type "tuple") none (@Data.seq (.mk []) (nat_lit 0)) (.mk []))
def o350 (P : Params) : Obj := (@Obj.mk Value.none none (@Data.func (@FuncData.mk (@Str.ofString "is_covered") (@Str.ofString "is_covered") (defArgs (topS 37)) (@FuncBody.stmts (defBody (topS 37))) (defScope (topS 37)) (nat_lit 0) [] Value.none Value.none Value.none Value.none none Value.none Value.none (nat_lit 0))) (.mk []))
def o351 (P : Params) : Obj := (@Obj.mk (@Value.type "code") none (@Data.fields (.mk [(@Value.str (@Str.ofString "is_covered") (nat_lit 630)), (@Value.str (@Str.ofString "is_covered") (nat_lit 631)), (@Value.str (@Str.ofString "/claim/cut.py") (nat_lit 632)), (@Value.int (.ofNat (nat_lit 110)) (nat_lit 0)), (@Value.int (.ofNat (nat_lit 2)) (nat_lit 0)), (@Value.int (.ofNat (nat_lit 0)) (nat_lit 0)), (@Value.int (.ofNat (nat_lit 0)) (nat_lit 0)), (@Value.int (.ofNat (nat_lit 3)) (nat_lit 0)), (@Value.ref (nat_lit 346)), (@Value.bool true), (@Value.int (.ofNat (nat_lit 181)) (nat_lit 0)), (@Value.ref (nat_lit 347)), Value.none, (@Value.ref (nat_lit 348)), (@Value.ref (nat_lit 349)), (@Value.ref (nat_lit 350)), (@Value.int (.ofNat (nat_lit 636)) (nat_lit 0)), (@Value.int (.ofNat (nat_lit 110)) (nat_lit 0)), (@Value.str (@Str.ofString "/claim/cut.py") (nat_lit 637))])) (.mk []))
def o352 (P : Params) : Obj := (@Obj.mk (@Value.type "function") none (@Data.func (@FuncData.mk (@Str.ofString "is_covered") (@Str.ofString "is_covered") (defArgs (topS 37)) (@FuncBody.stmts (defBody (topS 37))) (defScope (topS 37)) (nat_lit 3) [] Value.none Value.none Value.none (@Value.str (@Str.ofString "menuhouses.masks") (nat_lit 587)) none (@Value.ref (nat_lit 351)) Value.none (nat_lit 0))) (.mk []))
def o353 (P : Params) : Obj := (@Obj.mk (@Value.type "tuple") none (@Data.seq (.mk []) (nat_lit 0)) (.mk []))
def o354 (P : Params) : Obj := (@Obj.mk Value.none none (@Data.fields (.mk [])) (.mk []))
def o355 (P : Params) : Obj := (@Obj.mk (@Value.type "tuple") none (@Data.seq (.mk [(@Value.str (@Str.ofString "masks") (nat_lit 642)), (@Value.str (@Str.ofString "found") (nat_lit 643)), (@Value.str (@Str.ofString "mask") (nat_lit 644))]) (nat_lit 0)) (.mk []))
def o356 (P : Params) : Obj := (@Obj.mk (@Value.type "tuple") none (@Data.seq (.mk []) (nat_lit 0)) (.mk []))
def o357 (P : Params) : Obj := (@Obj.mk Value.none none (@Data.func (@FuncData.mk (@Str.ofString "greatest") (@Str.ofString "greatest") (defArgs (topS 38)) (@FuncBody.stmts (defBody (topS 38))) (defScope (topS 38)) (nat_lit 0) [] Value.none Value.none Value.none Value.none none Value.none Value.none (nat_lit 0))) (.mk []))
def o358 (P : Params) : Obj := (@Obj.mk (@Value.type "code") none (@Data.fields (.mk [(@Value.str (@Str.ofString "greatest") (nat_lit 639)), (@Value.str (@Str.ofString "greatest") (nat_lit 640)), (@Value.str (@Str.ofString "/claim/cut.py") (nat_lit 641)), (@Value.int (.ofNat (nat_lit 115)) (nat_lit 0)), (@Value.int (.ofNat (nat_lit 1)) (nat_lit 0)), (@Value.int (.ofNat (nat_lit 0)) (nat_lit 0)), (@Value.int (.ofNat (nat_lit 0)) (nat_lit 0)), (@Value.int (.ofNat (nat_lit 3)) (nat_lit 0)), (@Value.ref (nat_lit 353)), (@Value.bool true), (@Value.int (.ofNat (nat_lit 181)) (nat_lit 0)), (@Value.ref (nat_lit 354)), Value.none, (@Value.ref (nat_lit 355)), (@Value.ref (nat_lit 356)), (@Value.ref (nat_lit 357)), (@Value.int (.ofNat (nat_lit 645)) (nat_lit 0)), (@Value.int (.ofNat (nat_lit 115)) (nat_lit 0)), (@Value.str (@Str.ofString "/claim/cut.py") (nat_lit 646))])) (.mk []))
def o359 (P : Params) : Obj := (@Obj.mk (@Value.type "function") none (@Data.func (@FuncData.mk (@Str.ofString "greatest") (@Str.ofString "greatest") (defArgs (topS 38)) (@FuncBody.stmts (defBody (topS 38))) (defScope (topS 38)) (nat_lit 3) [] Value.none Value.none Value.none (@Value.str (@Str.ofString "menuhouses.masks") (nat_lit 587)) none (@Value.ref (nat_lit 358)) Value.none (nat_lit 0))) (.mk []))
def o360 (P : Params) : Obj := (@Obj.mk (@Value.type "tuple") none (@Data.seq (.mk []) (nat_lit 0)) (.mk []))
def o361 (P : Params) : Obj := (@Obj.mk Value.none none (@Data.fields (.mk [])) (.mk []))
def o362 (P : Params) : Obj := (@Obj.mk Value.none none (@Data.func (@FuncData.mk (@Str.ofString "greater_sets") (@Str.ofString "greater_sets") (defArgs (topS 40)) (@FuncBody.stmts (defBody (topS 40))) (defScope (topS 40)) (nat_lit 0) [] Value.none Value.none Value.none Value.none none Value.none Value.none (nat_lit 0))) (.mk []))
def o363 (P : Params) : Obj := (@Obj.mk (@Value.type "code") none (@Data.fields (.mk [(@Value.str (@Str.ofString "greater_sets") (nat_lit 650)), (@Value.str (@Str.ofString "greater_sets") (nat_lit 651)), (@Value.str (@Str.ofString "/claim/cut.py") (nat_lit 652)), (@Value.int (.ofNat (nat_lit 122)) (nat_lit 0)), (@Value.int (.ofNat (nat_lit 1)) (nat_lit 0)), (@Value.int (.ofNat (nat_lit 0)) (nat_lit 0)), (@Value.int (.ofNat (nat_lit 0)) (nat_lit 0)), (@Value.int (.ofNat (nat_lit 3)) (nat_lit 0)), (@Value.ref (nat_lit 360)), (@Value.bool true), (@Value.int (.ofNat (nat_lit 181)) (nat_lit 0)), (@Value.ref (nat_lit 361)), Value.none, Value.none, Value.none, (@Value.ref (nat_lit 362)), (@Value.int (.ofNat (nat_lit 653)) (nat_lit 0)), (@Value.int (.ofNat (nat_lit 122)) (nat_lit 0)), (@Value.str (@Str.ofString "/claim/cut.py") (nat_lit 654))])) (.mk []))
def o364 (P : Params) : Obj := (@Obj.mk (@Value.type "function") none (@Data.func (@FuncData.mk (@Str.ofString "greater_sets") (@Str.ofString "greater_sets") (defArgs (topS 40)) (@FuncBody.stmts (defBody (topS 40))) (defScope (topS 40)) (nat_lit 3) [] Value.none Value.none Value.none (@Value.str (@Str.ofString "menuhouses.pairing") (nat_lit 648)) none (@Value.ref (nat_lit 363)) Value.none (nat_lit 0))) (.mk []))
def o3v3 (P : Params) : Obj := (@Obj.mk (@Value.type "dict") none (@Data.dict (.mk [(@DictEntry.mk (@PyData.keyHash P (@Str.ofString "__name__")) (@Value.str (@Str.ofString "__name__") (nat_lit 165)) (@Value.str (@Str.ofString "menuhouses.rankings") (nat_lit 765))), (@DictEntry.mk (@PyData.keyHash P (@Str.ofString "__doc__")) (@Value.str (@Str.ofString "__doc__") (nat_lit 166)) Value.none), (@DictEntry.mk (@PyData.keyHash P (@Str.ofString "__package__")) (@Value.str (@Str.ofString "__package__") (nat_lit 167)) Value.none), (@DictEntry.mk (@PyData.keyHash P (@Str.ofString "__loader__")) (@Value.str (@Str.ofString "__loader__") (nat_lit 168)) (@Value.builtin "__main__.__loader__#opaque")), (@DictEntry.mk (@PyData.keyHash P (@Str.ofString "__spec__")) (@Value.str (@Str.ofString "__spec__") (nat_lit 169)) Value.none), (@DictEntry.mk (@PyData.keyHash P (@Str.ofString "__annotations__")) (@Value.str (@Str.ofString "__annotations__") (nat_lit 170)) (@Value.ref (nat_lit 6))), (@DictEntry.mk (@PyData.keyHash P (@Str.ofString "__builtins__")) (@Value.str (@Str.ofString "__builtins__") (nat_lit 171)) (@Value.ref (nat_lit 4))), (@DictEntry.mk (@PyData.keyHash P (@Str.ofString "__file__")) (@Value.str (@Str.ofString "__file__") (nat_lit 173)) (@Value.str (@Str.ofString "/claim/cut.py") (nat_lit 172))), (@DictEntry.mk (@PyData.keyHash P (@Str.ofString "__cached__")) (@Value.str (@Str.ofString "__cached__") (nat_lit 174)) Value.none), (@DictEntry.mk (@PyData.keyHash P (@Str.ofString "_wall")) (@Value.str (@Str.ofString "_wall") (nat_lit 193)) (@Value.ref (nat_lit 21))), (@DictEntry.mk (@PyData.keyHash P (@Str.ofString "WrongValue")) (@Value.str (@Str.ofString "WrongValue") (nat_lit 213)) (@Value.ref (nat_lit 31))), (@DictEntry.mk (@PyData.keyHash P (@Str.ofString "InvalidText")) (@Value.str (@Str.ofString "InvalidText") (nat_lit 238)) (@Value.ref (nat_lit 51))), (@DictEntry.mk (@PyData.keyHash P (@Str.ofString "InvalidIndex")) (@Value.str (@Str.ofString "InvalidIndex") (nat_lit 263)) (@Value.ref (nat_lit 70))), (@DictEntry.mk (@PyData.keyHash P (@Str.ofString "NotAHouse")) (@Value.str (@Str.ofString "NotAHouse") (nat_lit 288)) (@Value.ref (nat_lit 89))), (@DictEntry.mk (@PyData.keyHash P (@Str.ofString "OtherThings")) (@Value.str (@Str.ofString "OtherThings") (nat_lit 313)) (@Value.ref (nat_lit 108))), (@DictEntry.mk (@PyData.keyHash P (@Str.ofString "InvalidRow")) (@Value.str (@Str.ofString "InvalidRow") (nat_lit 338)) (@Value.ref (nat_lit 127))), (@DictEntry.mk (@PyData.keyHash P (@Str.ofString "InvalidMenu")) (@Value.str (@Str.ofString "InvalidMenu") (nat_lit 363)) (@Value.ref (nat_lit 146))), (@DictEntry.mk (@PyData.keyHash P (@Str.ofString "InvalidRankings")) (@Value.str (@Str.ofString "InvalidRankings") (nat_lit 388)) (@Value.ref (nat_lit 165))), (@DictEntry.mk (@PyData.keyHash P (@Str.ofString "WrongName")) (@Value.str (@Str.ofString "WrongName") (nat_lit 406)) (@Value.ref (nat_lit 177))), (@DictEntry.mk (@PyData.keyHash P (@Str.ofString "UnknownThing")) (@Value.str (@Str.ofString "UnknownThing") (nat_lit 431)) (@Value.ref (nat_lit 197))), (@DictEntry.mk (@PyData.keyHash P (@Str.ofString "NoAnswer")) (@Value.str (@Str.ofString "NoAnswer") (nat_lit 451)) (@Value.ref (nat_lit 209))), (@DictEntry.mk (@PyData.keyHash P (@Str.ofString "TooMany")) (@Value.str (@Str.ofString "TooMany") (nat_lit 476)) (@Value.ref (nat_lit 229))), (@DictEntry.mk (@PyData.keyHash P (@Str.ofString "NoHouse")) (@Value.str (@Str.ofString "NoHouse") (nat_lit 501)) (@Value.ref (nat_lit 248))), (@DictEntry.mk (@PyData.keyHash P (@Str.ofString "MOST_THINGS")) (@Value.str (@Str.ofString "MOST_THINGS") (nat_lit 503)) (@Value.int (.ofNat (nat_lit 10)) (nat_lit 502))), (@DictEntry.mk (@PyData.keyHash P (@Str.ofString "MOST_PEOPLE")) (@Value.str (@Str.ofString "MOST_PEOPLE") (nat_lit 505)) (@Value.int (.ofNat (nat_lit 24)) (nat_lit 504))), (@DictEntry.mk (@PyData.keyHash P (@Str.ofString "LETTERS")) (@Value.str (@Str.ofString "LETTERS") (nat_lit 509)) (@Value.str (@Str.ofString "abcdefghijklmnopqrstuvwxyz") (nat_lit 508))), (@DictEntry.mk (@PyData.keyHash P (@Str.ofString "DIGITS")) (@Value.str (@Str.ofString "DIGITS") (nat_lit 511)) (@Value.str (@Str.ofString "0123456789") (nat_lit 510))), (@DictEntry.mk (@PyData.keyHash P (@Str.ofString "LONGEST_NAME")) (@Value.str (@Str.ofString "LONGEST_NAME") (nat_lit 513)) (@Value.int (.ofNat (nat_lit 8)) (nat_lit 512))), (@DictEntry.mk (@PyData.keyHash P (@Str.ofString "is_index")) (@Value.str (@Str.ofString "is_index") (nat_lit 521)) (@Value.ref (nat_lit 257))), (@DictEntry.mk (@PyData.keyHash P (@Str.ofString "is_name")) (@Value.str (@Str.ofString "is_name") (nat_lit 527)) (@Value.ref (nat_lit 262))), (@DictEntry.mk (@PyData.keyHash P (@Str.ofString "is_filled_tuple")) (@Value.str (@Str.ofString "is_filled_tuple") (nat_lit 534)) (@Value.ref (nat_lit 269))), (@DictEntry.mk (@PyData.keyHash P (@Str.ofString "is_one_of")) (@Value.str (@Str.ofString "is_one_of") (nat_lit 542)) (@Value.ref (nat_lit 276))), (@DictEntry.mk (@PyData.keyHash P (@Str.ofString "first_wrong_in_row")) (@Value.str (@Str.ofString "first_wrong_in_row") (nat_lit 551)) (@Value.ref (nat_lit 283))), (@DictEntry.mk (@PyData.keyHash P (@Str.ofString "first_wrong_on_menu")) (@Value.str (@Str.ofString "first_wrong_on_menu") (nat_lit 561)) (@Value.ref (nat_lit 290))), (@DictEntry.mk (@PyData.keyHash P (@Str.ofString "check_row")) (@Value.str (@Str.ofString "check_row") (nat_lit 569)) (@Value.ref (nat_lit 297))), (@DictEntry.mk (@PyData.keyHash P (@Str.ofString "check_menu")) (@Value.str (@Str.ofString "check_menu") (nat_lit 578)) (@Value.ref (nat_lit 304))), (@DictEntry.mk (@PyData.keyHash P (@Str.ofString "check_thing")) (@Value.str (@Str.ofString "check_thing") (nat_lit 586)) (@Value.ref (nat_lit 311))), (@DictEntry.mk (@PyData.keyHash P (@Str.ofString "mask_of_all")) (@Value.str (@Str.ofString "mask_of_all") (nat_lit 595)) (@Value.ref (nat_lit 318))), (@DictEntry.mk (@PyData.keyHash P (@Str.ofString "index_of")) (@Value.str (@Str.ofString "index_of") (nat_lit 601)) (@Value.ref (nat_lit 323))), (@DictEntry.mk (@PyData.keyHash P (@Str.ofString "mask_of")) (@Value.str (@Str.ofString "mask_of") (nat_lit 611)) (@Value.ref (nat_lit 330))), (@DictEntry.mk (@PyData.keyHash P (@Str.ofString "indexes_of")) (@Value.str (@Str.ofString "indexes_of") (nat_lit 617)) (@Value.ref (nat_lit 335))), (@DictEntry.mk (@PyData.keyHash P (@Str.ofString "names_of")) (@Value.str (@Str.ofString "names_of") (nat_lit 623)) (@Value.ref (nat_lit 340))), (@DictEntry.mk (@PyData.keyHash P (@Str.ofString "below_masks")) (@Value.str (@Str.ofString "below_masks") (nat_lit 629)) (@Value.ref (nat_lit 345))), (@DictEntry.mk (@PyData.keyHash P (@Str.ofString "is_covered")) (@Value.str (@Str.ofString "is_covered") (nat_lit 638)) (@Value.ref (nat_lit 352))), (@DictEntry.mk (@PyData.keyHash P (@Str.ofString "greatest")) (@Value.str (@Str.ofString "greatest") (nat_lit 647)) (@Value.ref (nat_lit 359))), (@DictEntry.mk (@PyData.keyHash P (@Str.ofString "greater_sets")) (@Value.str (@Str.ofString "greater_sets") (nat_lit 655)) (@Value.ref (nat_lit 364))), (@DictEntry.mk (@PyData.keyHash P (@Str.ofString "pairs_back")) (@Value.str (@Str.ofString "pairs_back") (nat_lit 666)) (@Value.ref (nat_lit 371))), (@DictEntry.mk (@PyData.keyHash P (@Str.ofString "pairs_for")) (@Value.str (@Str.ofString "pairs_for") (nat_lit 680)) (@Value.ref (nat_lit 378))), (@DictEntry.mk (@PyData.keyHash P (@Str.ofString "most_pairs")) (@Value.str (@Str.ofString "most_pairs") (nat_lit 692)) (@Value.ref (nat_lit 385))), (@DictEntry.mk (@PyData.keyHash P (@Str.ofString "chains")) (@Value.str (@Str.ofString "chains") (nat_lit 704)) (@Value.ref (nat_lit 392))), (@DictEntry.mk (@PyData.keyHash P (@Str.ofString "takes")) (@Value.str (@Str.ofString "takes") (nat_lit 715)) (@Value.ref (nat_lit 399))), (@DictEntry.mk (@PyData.keyHash P (@Str.ofString "indexes_taken")) (@Value.str (@Str.ofString "indexes_taken") (nat_lit 721)) (@Value.ref (nat_lit 404))), (@DictEntry.mk (@PyData.keyHash P (@Str.ofString "joining_steps")) (@Value.str (@Str.ofString "joining_steps") (nat_lit 727)) (@Value.ref (nat_lit 409))), (@DictEntry.mk (@PyData.keyHash P (@Str.ofString "dead_end")) (@Value.str (@Str.ofString "dead_end") (nat_lit 735)) (@Value.ref (nat_lit 416))), (@DictEntry.mk (@PyData.keyHash P (@Str.ofString "rows_ahead")) (@Value.str (@Str.ofString "rows_ahead") (nat_lit 746)) (@Value.ref (nat_lit 423))), (@DictEntry.mk (@PyData.keyHash P (@Str.ofString "crests_of_steps")) (@Value.str (@Str.ofString "crests_of_steps") (nat_lit 752)) (@Value.ref (nat_lit 428))), (@DictEntry.mk (@PyData.keyHash P (@Str.ofString "row_with_crests")) (@Value.str (@Str.ofString "row_with_crests") (nat_lit 758)) (@Value.ref (nat_lit 433))), (@DictEntry.mk (@PyData.keyHash P (@Str.ofString "fewest_rows")) (@Value.str (@Str.ofString "fewest_rows") (nat_lit 764)) (@Value.ref (nat_lit 438)))]) (nat_lit 58)) (.mk []))
def o12v4 (P : Params) : Obj := (@Obj.mk Value.none none (@Data.fields (.mk [(@Value.int (.ofNat (nat_lit 1)) (nat_lit 0)), (@Value.int (.ofNat (nat_lit 0)) (nat_lit 0)), (@Value.ref (nat_lit 20)), (@Value.int (.ofNat (nat_lit 5)) (nat_lit 0)), (@Value.int (.ofNat (nat_lit 0)) (nat_lit 0)), (@Value.ref (nat_lit 27)), (@Value.int (.ofNat (nat_lit 7)) (nat_lit 0)), (@Value.int (.ofNat (nat_lit 0)) (nat_lit 0)), (@Value.ref (nat_lit 40)), (@Value.int (.ofNat (nat_lit 11)) (nat_lit 0)), (@Value.int (.ofNat (nat_lit 0)) (nat_lit 0)), (@Value.ref (nat_lit 59)), (@Value.int (.ofNat (nat_lit 15)) (nat_lit 0)), (@Value.int (.ofNat (nat_lit 0)) (nat_lit 0)), (@Value.ref (nat_lit 78)), (@Value.int (.ofNat (nat_lit 19)) (nat_lit 0)), (@Value.int (.ofNat (nat_lit 0)) (nat_lit 0)), (@Value.ref (nat_lit 97)), (@Value.int (.ofNat (nat_lit 23)) (nat_lit 0)), (@Value.int (.ofNat (nat_lit 0)) (nat_lit 0)), (@Value.ref (nat_lit 116)), (@Value.int (.ofNat (nat_lit 27)) (nat_lit 0)), (@Value.int (.ofNat (nat_lit 0)) (nat_lit 0)), (@Value.ref (nat_lit 135)), (@Value.int (.ofNat (nat_lit 31)) (nat_lit 0)), (@Value.int (.ofNat (nat_lit 0)) (nat_lit 0)), (@Value.ref (nat_lit 154)), (@Value.int (.ofNat (nat_lit 35)) (nat_lit 0)), (@Value.int (.ofNat (nat_lit 0)) (nat_lit 0)), (@Value.ref (nat_lit 173)), (@Value.int (.ofNat (nat_lit 37)) (nat_lit 0)), (@Value.int (.ofNat (nat_lit 0)) (nat_lit 0)), (@Value.ref (nat_lit 186)), (@Value.int (.ofNat (nat_lit 41)) (nat_lit 0)), (@Value.int (.ofNat (nat_lit 0)) (nat_lit 0)), (@Value.ref (nat_lit 205)), (@Value.int (.ofNat (nat_lit 43)) (nat_lit 0)), (@Value.int (.ofNat (nat_lit 0)) (nat_lit 0)), (@Value.ref (nat_lit 218)), (@Value.int (.ofNat (nat_lit 47)) (nat_lit 0)), (@Value.int (.ofNat (nat_lit 0)) (nat_lit 0)), (@Value.ref (nat_lit 237)), (@Value.int (.ofNat (nat_lit 57)) (nat_lit 0)), (@Value.int (.ofNat (nat_lit 0)) (nat_lit 0)), (@Value.ref (nat_lit 256)), (@Value.int (.ofNat (nat_lit 59)) (nat_lit 0)), (@Value.int (.ofNat (nat_lit 0)) (nat_lit 0)), (@Value.ref (nat_lit 261)), (@Value.int (.ofNat (nat_lit 63)) (nat_lit 0)), (@Value.int (.ofNat (nat_lit 0)) (nat_lit 0)), (@Value.ref (nat_lit 268)), (@Value.int (.ofNat (nat_lit 65)) (nat_lit 0)), (@Value.int (.ofNat (nat_lit 0)) (nat_lit 0)), (@Value.ref (nat_lit 275)), (@Value.int (.ofNat (nat_lit 67)) (nat_lit 0)), (@Value.int (.ofNat (nat_lit 0)) (nat_lit 0)), (@Value.ref (nat_lit 282)), (@Value.int (.ofNat (nat_lit 72)) (nat_lit 0)), (@Value.int (.ofNat (nat_lit 0)) (nat_lit 0)), (@Value.ref (nat_lit 289)), (@Value.int (.ofNat (nat_lit 79)) (nat_lit 0)), (@Value.int (.ofNat (nat_lit 0)) (nat_lit 0)), (@Value.ref (nat_lit 296)), (@Value.int (.ofNat (nat_lit 85)) (nat_lit 0)), (@Value.int (.ofNat (nat_lit 0)) (nat_lit 0)), (@Value.ref (nat_lit 303)), (@Value.int (.ofNat (nat_lit 91)) (nat_lit 0)), (@Value.int (.ofNat (nat_lit 0)) (nat_lit 0)), (@Value.ref (nat_lit 310)), (@Value.int (.ofNat (nat_lit 95)) (nat_lit 0)), (@Value.int (.ofNat (nat_lit 0)) (nat_lit 0)), (@Value.ref (nat_lit 317)), (@Value.int (.ofNat (nat_lit 97)) (nat_lit 0)), (@Value.int (.ofNat (nat_lit 0)) (nat_lit 0)), (@Value.ref (nat_lit 322)), (@Value.int (.ofNat (nat_lit 99)) (nat_lit 0)), (@Value.int (.ofNat (nat_lit 0)) (nat_lit 0)), (@Value.ref (nat_lit 329)), (@Value.int (.ofNat (nat_lit 104)) (nat_lit 0)), (@Value.int (.ofNat (nat_lit 0)) (nat_lit 0)), (@Value.ref (nat_lit 334)), (@Value.int (.ofNat (nat_lit 106)) (nat_lit 0)), (@Value.int (.ofNat (nat_lit 0)) (nat_lit 0)), (@Value.ref (nat_lit 339)), (@Value.int (.ofNat (nat_lit 108)) (nat_lit 0)), (@Value.int (.ofNat (nat_lit 0)) (nat_lit 0)), (@Value.ref (nat_lit 344)), (@Value.int (.ofNat (nat_lit 110)) (nat_lit 0)), (@Value.int (.ofNat (nat_lit 0)) (nat_lit 0)), (@Value.ref (nat_lit 351)), (@Value.int (.ofNat (nat_lit 115)) (nat_lit 0)), (@Value.int (.ofNat (nat_lit 0)) (nat_lit 0)), (@Value.ref (nat_lit 358)), (@Value.int (.ofNat (nat_lit 122)) (nat_lit 0)), (@Value.int (.ofNat (nat_lit 0)) (nat_lit 0)), (@Value.ref (nat_lit 363)), (@Value.int (.ofNat (nat_lit 124)) (nat_lit 0)), (@Value.int (.ofNat (nat_lit 0)) (nat_lit 0)), (@Value.ref (nat_lit 370)), (@Value.int (.ofNat (nat_lit 130)) (nat_lit 0)), (@Value.int (.ofNat (nat_lit 0)) (nat_lit 0)), (@Value.ref (nat_lit 377)), (@Value.int (.ofNat (nat_lit 142)) (nat_lit 0)), (@Value.int (.ofNat (nat_lit 0)) (nat_lit 0)), (@Value.ref (nat_lit 384)), (@Value.int (.ofNat (nat_lit 150)) (nat_lit 0)), (@Value.int (.ofNat (nat_lit 0)) (nat_lit 0)), (@Value.ref (nat_lit 391)), (@Value.int (.ofNat (nat_lit 161)) (nat_lit 0)), (@Value.int (.ofNat (nat_lit 0)) (nat_lit 0)), (@Value.ref (nat_lit 398)), (@Value.int (.ofNat (nat_lit 163)) (nat_lit 0)), (@Value.int (.ofNat (nat_lit 0)) (nat_lit 0)), (@Value.ref (nat_lit 403)), (@Value.int (.ofNat (nat_lit 165)) (nat_lit 0)), (@Value.int (.ofNat (nat_lit 0)) (nat_lit 0)), (@Value.ref (nat_lit 408)), (@Value.int (.ofNat (nat_lit 174)) (nat_lit 0)), (@Value.int (.ofNat (nat_lit 0)) (nat_lit 0)), (@Value.ref (nat_lit 415)), (@Value.int (.ofNat (nat_lit 179)) (nat_lit 0)), (@Value.int (.ofNat (nat_lit 0)) (nat_lit 0)), (@Value.ref (nat_lit 422)), (@Value.int (.ofNat (nat_lit 186)) (nat_lit 0)), (@Value.int (.ofNat (nat_lit 0)) (nat_lit 0)), (@Value.ref (nat_lit 427)), (@Value.int (.ofNat (nat_lit 192)) (nat_lit 0)), (@Value.int (.ofNat (nat_lit 0)) (nat_lit 0)), (@Value.ref (nat_lit 432)), (@Value.int (.ofNat (nat_lit 202)) (nat_lit 0)), (@Value.int (.ofNat (nat_lit 0)) (nat_lit 0)), (@Value.ref (nat_lit 437))])) (.mk []))
def o365 (P : Params) : Obj := (@Obj.mk (@Value.type "tuple") none (@Data.seq (.mk []) (nat_lit 0)) (.mk []))
def o366 (P : Params) : Obj := (@Obj.mk Value.none none (@Data.fields (.mk [])) (.mk []))
def o367 (P : Params) : Obj := (@Obj.mk (@Value.type "tuple") none (@Data.seq (.mk [(@Value.str (@Str.ofString "came") (nat_lit 659)), (@Value.str (@Str.ofString "above") (nat_lit 660)), (@Value.str (@Str.ofString "start") (nat_lit 661)), (@Value.str (@Str.ofString "high") (nat_lit 662)), (@Value.str (@Str.ofString "pairs") (nat_lit 663))]) (nat_lit 0)) (.mk []))
def o368 (P : Params) : Obj := (@Obj.mk (@Value.type "tuple") none (@Data.seq (.mk []) (nat_lit 0)) (.mk []))
def o369 (P : Params) : Obj := (@Obj.mk Value.none none (@Data.func (@FuncData.mk (@Str.ofString "pairs_back") (@Str.ofString "pairs_back") (defArgs (topS 41)) (@FuncBody.stmts (defBody (topS 41))) (defScope (topS 41)) (nat_lit 0) [] Value.none Value.none Value.none Value.none none Value.none Value.none (nat_lit 0))) (.mk []))
def o370 (P : Params) : Obj := (@Obj.mk (@Value.type "code") none (@Data.fields (.mk [(@Value.str (@Str.ofString "pairs_back") (nat_lit 656)), (@Value.str (@Str.ofString "pairs_back") (nat_lit 657)), (@Value.str (@Str.ofString "/claim/cut.py") (nat_lit 658)), (@Value.int (.ofNat (nat_lit 124)) (nat_lit 0)), (@Value.int (.ofNat (nat_lit 4)) (nat_lit 0)), (@Value.int (.ofNat (nat_lit 0)) (nat_lit 0)), (@Value.int (.ofNat (nat_lit 0)) (nat_lit 0)), (@Value.int (.ofNat (nat_lit 3)) (nat_lit 0)), (@Value.ref (nat_lit 365)), (@Value.bool true), (@Value.int (.ofNat (nat_lit 181)) (nat_lit 0)), (@Value.ref (nat_lit 366)), Value.none, (@Value.ref (nat_lit 367)), (@Value.ref (nat_lit 368)), (@Value.ref (nat_lit 369)), (@Value.int (.ofNat (nat_lit 664)) (nat_lit 0)), (@Value.int (.ofNat (nat_lit 124)) (nat_lit 0)), (@Value.str (@Str.ofString "/claim/cut.py") (nat_lit 665))])) (.mk []))
def o371 (P : Params) : Obj := (@Obj.mk (@Value.type "function") none (@Data.func (@FuncData.mk (@Str.ofString "pairs_back") (@Str.ofString "pairs_back") (defArgs (topS 41)) (@FuncBody.stmts (defBody (topS 41))) (defScope (topS 41)) (nat_lit 3) [] Value.none Value.none Value.none (@Value.str (@Str.ofString "menuhouses.pairing") (nat_lit 648)) none (@Value.ref (nat_lit 370)) Value.none (nat_lit 0))) (.mk []))
def o372 (P : Params) : Obj := (@Obj.mk (@Value.type "tuple") none (@Data.seq (.mk []) (nat_lit 0)) (.mk []))
def o373 (P : Params) : Obj := (@Obj.mk Value.none none (@Data.fields (.mk [])) (.mk []))
def o374 (P : Params) : Obj := (@Obj.mk (@Value.type "tuple") none (@Data.seq (.mk [(@Value.str (@Str.ofString "start") (nat_lit 670)), (@Value.str (@Str.ofString "greater") (nat_lit 671)), (@Value.str (@Str.ofString "above") (nat_lit 672)), (@Value.str (@Str.ofString "below") (nat_lit 673)), (@Value.str (@Str.ofString "came") (nat_lit 674)), (@Value.str (@Str.ofString "waiting") (nat_lit 675)), (@Value.str (@Str.ofString "low") (nat_lit 676)), (@Value.str (@Str.ofString "high") (nat_lit 677))]) (nat_lit 0)) (.mk []))
def o375 (P : Params) : Obj := (@Obj.mk (@Value.type "tuple") none (@Data.seq (.mk []) (nat_lit 0)) (.mk []))
def o376 (P : Params) : Obj := (@Obj.mk Value.none none (@Data.func (@FuncData.mk (@Str.ofString "pairs_for") (@Str.ofString "pairs_for") (defArgs (topS 42)) (@FuncBody.stmts (defBody (topS 42))) (defScope (topS 42)) (nat_lit 0) [] Value.none Value.none Value.none Value.none none Value.none Value.none (nat_lit 0))) (.mk []))
def o377 (P : Params) : Obj := (@Obj.mk (@Value.type "code") none (@Data.fields (.mk [(@Value.str (@Str.ofString "pairs_for") (nat_lit 667)), (@Value.str (@Str.ofString "pairs_for") (nat_lit 668)), (@Value.str (@Str.ofString "/claim/cut.py") (nat_lit 669)), (@Value.int (.ofNat (nat_lit 130)) (nat_lit 0)), (@Value.int (.ofNat (nat_lit 4)) (nat_lit 0)), (@Value.int (.ofNat (nat_lit 0)) (nat_lit 0)), (@Value.int (.ofNat (nat_lit 0)) (nat_lit 0)), (@Value.int (.ofNat (nat_lit 3)) (nat_lit 0)), (@Value.ref (nat_lit 372)), (@Value.bool true), (@Value.int (.ofNat (nat_lit 181)) (nat_lit 0)), (@Value.ref (nat_lit 373)), Value.none, (@Value.ref (nat_lit 374)), (@Value.ref (nat_lit 375)), (@Value.ref (nat_lit 376)), (@Value.int (.ofNat (nat_lit 678)) (nat_lit 0)), (@Value.int (.ofNat (nat_lit 130)) (nat_lit 0)), (@Value.str (@Str.ofString "/claim/cut.py") (nat_lit 679))])) (.mk []))
def o378 (P : Params) : Obj := (@Obj.mk (@Value.type "function") none (@Data.func (@FuncData.mk (@Str.ofString "pairs_for") (@Str.ofString "pairs_for") (defArgs (topS 42)) (@FuncBody.stmts (defBody (topS 42))) (defScope (topS 42)) (nat_lit 3) [] Value.none Value.none Value.none (@Value.str (@Str.ofString "menuhouses.pairing") (nat_lit 648)) none (@Value.ref (nat_lit 377)) Value.none (nat_lit 0))) (.mk []))
def o379 (P : Params) : Obj := (@Obj.mk (@Value.type "tuple") none (@Data.seq (.mk []) (nat_lit 0)) (.mk []))
def o380 (P : Params) : Obj := (@Obj.mk Value.none none (@Data.fields (.mk [])) (.mk []))
def o381 (P : Params) : Obj := (@Obj.mk (@Value.type "tuple") none (@Data.seq (.mk [(@Value.str (@Str.ofString "greater") (nat_lit 684)), (@Value.str (@Str.ofString "above") (nat_lit 685)), (@Value.str (@Str.ofString "below") (nat_lit 686)), (@Value.str (@Str.ofString "start") (nat_lit 687)), (@Value.str (@Str.ofString "low") (nat_lit 688)), (@Value.str (@Str.ofString "high") (nat_lit 689))]) (nat_lit 0)) (.mk []))
def o382 (P : Params) : Obj := (@Obj.mk (@Value.type "tuple") none (@Data.seq (.mk []) (nat_lit 0)) (.mk []))
def o383 (P : Params) : Obj := (@Obj.mk Value.none none (@Data.func (@FuncData.mk (@Str.ofString "most_pairs") (@Str.ofString "most_pairs") (defArgs (topS 43)) (@FuncBody.stmts (defBody (topS 43))) (defScope (topS 43)) (nat_lit 0) [] Value.none Value.none Value.none Value.none none Value.none Value.none (nat_lit 0))) (.mk []))
def o384 (P : Params) : Obj := (@Obj.mk (@Value.type "code") none (@Data.fields (.mk [(@Value.str (@Str.ofString "most_pairs") (nat_lit 681)), (@Value.str (@Str.ofString "most_pairs") (nat_lit 682)), (@Value.str (@Str.ofString "/claim/cut.py") (nat_lit 683)), (@Value.int (.ofNat (nat_lit 142)) (nat_lit 0)), (@Value.int (.ofNat (nat_lit 1)) (nat_lit 0)), (@Value.int (.ofNat (nat_lit 0)) (nat_lit 0)), (@Value.int (.ofNat (nat_lit 0)) (nat_lit 0)), (@Value.int (.ofNat (nat_lit 3)) (nat_lit 0)), (@Value.ref (nat_lit 379)), (@Value.bool true), (@Value.int (.ofNat (nat_lit 181)) (nat_lit 0)), (@Value.ref (nat_lit 380)), Value.none, (@Value.ref (nat_lit 381)), (@Value.ref (nat_lit 382)), (@Value.ref (nat_lit 383)), (@Value.int (.ofNat (nat_lit 690)) (nat_lit 0)), (@Value.int (.ofNat (nat_lit 142)) (nat_lit 0)), (@Value.str (@Str.ofString "/claim/cut.py") (nat_lit 691))])) (.mk []))
def o385 (P : Params) : Obj := (@Obj.mk (@Value.type "function") none (@Data.func (@FuncData.mk (@Str.ofString "most_pairs") (@Str.ofString "most_pairs") (defArgs (topS 43)) (@FuncBody.stmts (defBody (topS 43))) (defScope (topS 43)) (nat_lit 3) [] Value.none Value.none Value.none (@Value.str (@Str.ofString "menuhouses.pairing") (nat_lit 648)) none (@Value.ref (nat_lit 384)) Value.none (nat_lit 0))) (.mk []))
def o386 (P : Params) : Obj := (@Obj.mk (@Value.type "tuple") none (@Data.seq (.mk []) (nat_lit 0)) (.mk []))
def o387 (P : Params) : Obj := (@Obj.mk Value.none none (@Data.fields (.mk [])) (.mk []))
def o388 (P : Params) : Obj := (@Obj.mk (@Value.type "tuple") none (@Data.seq (.mk [(@Value.str (@Str.ofString "masks") (nat_lit 696)), (@Value.str (@Str.ofString "above") (nat_lit 697)), (@Value.str (@Str.ofString "below") (nat_lit 698)), (@Value.str (@Str.ofString "rows") (nat_lit 699)), (@Value.str (@Str.ofString "top") (nat_lit 700)), (@Value.str (@Str.ofString "row") (nat_lit 701))]) (nat_lit 0)) (.mk []))
def o389 (P : Params) : Obj := (@Obj.mk (@Value.type "tuple") none (@Data.seq (.mk []) (nat_lit 0)) (.mk []))
def o390 (P : Params) : Obj := (@Obj.mk Value.none none (@Data.func (@FuncData.mk (@Str.ofString "chains") (@Str.ofString "chains") (defArgs (topS 44)) (@FuncBody.stmts (defBody (topS 44))) (defScope (topS 44)) (nat_lit 0) [] Value.none Value.none Value.none Value.none none Value.none Value.none (nat_lit 0))) (.mk []))
def o391 (P : Params) : Obj := (@Obj.mk (@Value.type "code") none (@Data.fields (.mk [(@Value.str (@Str.ofString "chains") (nat_lit 693)), (@Value.str (@Str.ofString "chains") (nat_lit 694)), (@Value.str (@Str.ofString "/claim/cut.py") (nat_lit 695)), (@Value.int (.ofNat (nat_lit 150)) (nat_lit 0)), (@Value.int (.ofNat (nat_lit 1)) (nat_lit 0)), (@Value.int (.ofNat (nat_lit 0)) (nat_lit 0)), (@Value.int (.ofNat (nat_lit 0)) (nat_lit 0)), (@Value.int (.ofNat (nat_lit 3)) (nat_lit 0)), (@Value.ref (nat_lit 386)), (@Value.bool true), (@Value.int (.ofNat (nat_lit 181)) (nat_lit 0)), (@Value.ref (nat_lit 387)), Value.none, (@Value.ref (nat_lit 388)), (@Value.ref (nat_lit 389)), (@Value.ref (nat_lit 390)), (@Value.int (.ofNat (nat_lit 702)) (nat_lit 0)), (@Value.int (.ofNat (nat_lit 150)) (nat_lit 0)), (@Value.str (@Str.ofString "/claim/cut.py") (nat_lit 703))])) (.mk []))
def o392 (P : Params) : Obj := (@Obj.mk (@Value.type "function") none (@Data.func (@FuncData.mk (@Str.ofString "chains") (@Str.ofString "chains") (defArgs (topS 44)) (@FuncBody.stmts (defBody (topS 44))) (defScope (topS 44)) (nat_lit 3) [] Value.none Value.none Value.none (@Value.str (@Str.ofString "menuhouses.pairing") (nat_lit 648)) none (@Value.ref (nat_lit 391)) Value.none (nat_lit 0))) (.mk []))
def o393 (P : Params) : Obj := (@Obj.mk (@Value.type "tuple") none (@Data.seq (.mk []) (nat_lit 0)) (.mk []))
def o394 (P : Params) : Obj := (@Obj.mk Value.none none (@Data.fields (.mk [])) (.mk []))
def o395 (P : Params) : Obj := (@Obj.mk (@Value.type "tuple") none (@Data.seq (.mk [(@Value.str (@Str.ofString "crest_masks") (nat_lit 710)), (@Value.str (@Str.ofString "menu") (nat_lit 711)), (@Value.str (@Str.ofString "at") (nat_lit 712))]) (nat_lit 0)) (.mk []))
def o396 (P : Params) : Obj := (@Obj.mk (@Value.type "tuple") none (@Data.seq (.mk []) (nat_lit 0)) (.mk []))
def o397 (P : Params) : Obj := (@Obj.mk Value.none none (@Data.func (@FuncData.mk (@Str.ofString "takes") (@Str.ofString "takes") (defArgs (topS 46)) (@FuncBody.stmts (defBody (topS 46))) (defScope (topS 46)) (nat_lit 0) [] Value.none Value.none Value.none Value.none none Value.none Value.none (nat_lit 0))) (.mk []))
def o398 (P : Params) : Obj := (@Obj.mk (@Value.type "code") none (@Data.fields (.mk [(@Value.str (@Str.ofString "takes") (nat_lit 707)), (@Value.str (@Str.ofString "takes") (nat_lit 708)), (@Value.str (@Str.ofString "/claim/cut.py") (nat_lit 709)), (@Value.int (.ofNat (nat_lit 161)) (nat_lit 0)), (@Value.int (.ofNat (nat_lit 3)) (nat_lit 0)), (@Value.int (.ofNat (nat_lit 0)) (nat_lit 0)), (@Value.int (.ofNat (nat_lit 0)) (nat_lit 0)), (@Value.int (.ofNat (nat_lit 3)) (nat_lit 0)), (@Value.ref (nat_lit 393)), (@Value.bool true), (@Value.int (.ofNat (nat_lit 181)) (nat_lit 0)), (@Value.ref (nat_lit 394)), Value.none, (@Value.ref (nat_lit 395)), (@Value.ref (nat_lit 396)), (@Value.ref (nat_lit 397)), (@Value.int (.ofNat (nat_lit 713)) (nat_lit 0)), (@Value.int (.ofNat (nat_lit 161)) (nat_lit 0)), (@Value.str (@Str.ofString "/claim/cut.py") (nat_lit 714))])) (.mk []))
def o399 (P : Params) : Obj := (@Obj.mk (@Value.type "function") none (@Data.func (@FuncData.mk (@Str.ofString "takes") (@Str.ofString "takes") (defArgs (topS 46)) (@FuncBody.stmts (defBody (topS 46))) (defScope (topS 46)) (nat_lit 3) [] Value.none Value.none Value.none (@Value.str (@Str.ofString "menuhouses.joining") (nat_lit 705)) none (@Value.ref (nat_lit 398)) Value.none (nat_lit 0))) (.mk []))
def o400 (P : Params) : Obj := (@Obj.mk (@Value.type "tuple") none (@Data.seq (.mk []) (nat_lit 0)) (.mk []))
def o401 (P : Params) : Obj := (@Obj.mk Value.none none (@Data.fields (.mk [])) (.mk []))
def o402 (P : Params) : Obj := (@Obj.mk Value.none none (@Data.func (@FuncData.mk (@Str.ofString "indexes_taken") (@Str.ofString "indexes_taken") (defArgs (topS 47)) (@FuncBody.stmts (defBody (topS 47))) (defScope (topS 47)) (nat_lit 0) [] Value.none Value.none Value.none Value.none none Value.none Value.none (nat_lit 0))) (.mk []))
def o403 (P : Params) : Obj := (@Obj.mk (@Value.type "code") none (@Data.fields (.mk [(@Value.str (@Str.ofString "indexes_taken") (nat_lit 716)), (@Value.str (@Str.ofString "indexes_taken") (nat_lit 717)), (@Value.str (@Str.ofString "/claim/cut.py") (nat_lit 718)), (@Value.int (.ofNat (nat_lit 163)) (nat_lit 0)), (@Value.int (.ofNat (nat_lit 2)) (nat_lit 0)), (@Value.int (.ofNat (nat_lit 0)) (nat_lit 0)), (@Value.int (.ofNat (nat_lit 0)) (nat_lit 0)), (@Value.int (.ofNat (nat_lit 3)) (nat_lit 0)), (@Value.ref (nat_lit 400)), (@Value.bool true), (@Value.int (.ofNat (nat_lit 181)) (nat_lit 0)), (@Value.ref (nat_lit 401)), Value.none, Value.none, Value.none, (@Value.ref (nat_lit 402)), (@Value.int (.ofNat (nat_lit 719)) (nat_lit 0)), (@Value.int (.ofNat (nat_lit 163)) (nat_lit 0)), (@Value.str (@Str.ofString "/claim/cut.py") (nat_lit 720))])) (.mk []))
def o404 (P : Params) : Obj := (@Obj.mk (@Value.type "function") none (@Data.func (@FuncData.mk (@Str.ofString "indexes_taken") (@Str.ofString "indexes_taken") (defArgs (topS 47)) (@FuncBody.stmts (defBody (topS 47))) (defScope (topS 47)) (nat_lit 3) [] Value.none Value.none Value.none (@Value.str (@Str.ofString "menuhouses.joining") (nat_lit 705)) none (@Value.ref (nat_lit 403)) Value.none (nat_lit 0))) (.mk []))
def o405 (P : Params) : Obj := (@Obj.mk (@Value.type "tuple") none (@Data.seq (.mk []) (nat_lit 0)) (.mk []))
def o406 (P : Params) : Obj := (@Obj.mk Value.none none (@Data.fields (.mk [])) (.mk []))
def o407 (P : Params) : Obj := (@Obj.mk Value.none none (@Data.func (@FuncData.mk (@Str.ofString "joining_steps") (@Str.ofString "joining_steps") (defArgs (topS 48)) (@FuncBody.stmts (defBody (topS 48))) (defScope (topS 48)) (nat_lit 0) [] Value.none Value.none Value.none Value.none none Value.none Value.none (nat_lit 0))) (.mk []))
def o408 (P : Params) : Obj := (@Obj.mk (@Value.type "code") none (@Data.fields (.mk [(@Value.str (@Str.ofString "joining_steps") (nat_lit 722)), (@Value.str (@Str.ofString "joining_steps") (nat_lit 723)), (@Value.str (@Str.ofString "/claim/cut.py") (nat_lit 724)), (@Value.int (.ofNat (nat_lit 165)) (nat_lit 0)), (@Value.int (.ofNat (nat_lit 1)) (nat_lit 0)), (@Value.int (.ofNat (nat_lit 0)) (nat_lit 0)), (@Value.int (.ofNat (nat_lit 0)) (nat_lit 0)), (@Value.int (.ofNat (nat_lit 3)) (nat_lit 0)), (@Value.ref (nat_lit 405)), (@Value.bool true), (@Value.int (.ofNat (nat_lit 181)) (nat_lit 0)), (@Value.ref (nat_lit 406)), Value.none, Value.none, Value.none, (@Value.ref (nat_lit 407)), (@Value.int (.ofNat (nat_lit 725)) (nat_lit 0)), (@Value.int (.ofNat (nat_lit 165)) (nat_lit 0)), (@Value.str (@Str.ofString "/claim/cut.py") (nat_lit 726))])) (.mk []))
def o409 (P : Params) : Obj := (@Obj.mk (@Value.type "function") none (@Data.func (@FuncData.mk (@Str.ofString "joining_steps") (@Str.ofString "joining_steps") (defArgs (topS 48)) (@FuncBody.stmts (defBody (topS 48))) (defScope (topS 48)) (nat_lit 3) [] Value.none Value.none Value.none (@Value.str (@Str.ofString "menuhouses.joining") (nat_lit 705)) none (@Value.ref (nat_lit 408)) Value.none (nat_lit 0))) (.mk []))
def o410 (P : Params) : Obj := (@Obj.mk (@Value.type "tuple") none (@Data.seq (.mk []) (nat_lit 0)) (.mk []))
def o411 (P : Params) : Obj := (@Obj.mk Value.none none (@Data.fields (.mk [])) (.mk []))
def o412 (P : Params) : Obj := (@Obj.mk (@Value.type "tuple") none (@Data.seq (.mk [(@Value.str (@Str.ofString "steps") (nat_lit 731)), (@Value.str (@Str.ofString "left") (nat_lit 732))]) (nat_lit 0)) (.mk []))
def o413 (P : Params) : Obj := (@Obj.mk (@Value.type "tuple") none (@Data.seq (.mk []) (nat_lit 0)) (.mk []))
def o414 (P : Params) : Obj := (@Obj.mk Value.none none (@Data.func (@FuncData.mk (@Str.ofString "dead_end") (@Str.ofString "dead_end") (defArgs (topS 49)) (@FuncBody.stmts (defBody (topS 49))) (defScope (topS 49)) (nat_lit 0) [] Value.none Value.none Value.none Value.none none Value.none Value.none (nat_lit 0))) (.mk []))
def o415 (P : Params) : Obj := (@Obj.mk (@Value.type "code") none (@Data.fields (.mk [(@Value.str (@Str.ofString "dead_end") (nat_lit 728)), (@Value.str (@Str.ofString "dead_end") (nat_lit 729)), (@Value.str (@Str.ofString "/claim/cut.py") (nat_lit 730)), (@Value.int (.ofNat (nat_lit 174)) (nat_lit 0)), (@Value.int (.ofNat (nat_lit 1)) (nat_lit 0)), (@Value.int (.ofNat (nat_lit 0)) (nat_lit 0)), (@Value.int (.ofNat (nat_lit 0)) (nat_lit 0)), (@Value.int (.ofNat (nat_lit 3)) (nat_lit 0)), (@Value.ref (nat_lit 410)), (@Value.bool true), (@Value.int (.ofNat (nat_lit 181)) (nat_lit 0)), (@Value.ref (nat_lit 411)), Value.none, (@Value.ref (nat_lit 412)), (@Value.ref (nat_lit 413)), (@Value.ref (nat_lit 414)), (@Value.int (.ofNat (nat_lit 733)) (nat_lit 0)), (@Value.int (.ofNat (nat_lit 174)) (nat_lit 0)), (@Value.str (@Str.ofString "/claim/cut.py") (nat_lit 734))])) (.mk []))
def o416 (P : Params) : Obj := (@Obj.mk (@Value.type "function") none (@Data.func (@FuncData.mk (@Str.ofString "dead_end") (@Str.ofString "dead_end") (defArgs (topS 49)) (@FuncBody.stmts (defBody (topS 49))) (defScope (topS 49)) (nat_lit 3) [] Value.none Value.none Value.none (@Value.str (@Str.ofString "menuhouses.joining") (nat_lit 705)) none (@Value.ref (nat_lit 415)) Value.none (nat_lit 0))) (.mk []))
def o417 (P : Params) : Obj := (@Obj.mk (@Value.type "tuple") none (@Data.seq (.mk []) (nat_lit 0)) (.mk []))
def o418 (P : Params) : Obj := (@Obj.mk Value.none none (@Data.fields (.mk [])) (.mk []))
def o419 (P : Params) : Obj := (@Obj.mk (@Value.type "tuple") none (@Data.seq (.mk [(@Value.str (@Str.ofString "steps") (nat_lit 739)), (@Value.str (@Str.ofString "lefts") (nat_lit 740)), (@Value.str (@Str.ofString "ahead") (nat_lit 741)), (@Value.str (@Str.ofString "left") (nat_lit 742)), (@Value.str (@Str.ofString "at") (nat_lit 743))]) (nat_lit 0)) (.mk []))
def o420 (P : Params) : Obj := (@Obj.mk (@Value.type "tuple") none (@Data.seq (.mk []) (nat_lit 0)) (.mk []))
def o421 (P : Params) : Obj := (@Obj.mk Value.none none (@Data.func (@FuncData.mk (@Str.ofString "rows_ahead") (@Str.ofString "rows_ahead") (defArgs (topS 50)) (@FuncBody.stmts (defBody (topS 50))) (defScope (topS 50)) (nat_lit 0) [] Value.none Value.none Value.none Value.none none Value.none Value.none (nat_lit 0))) (.mk []))
def o422 (P : Params) : Obj := (@Obj.mk (@Value.type "code") none (@Data.fields (.mk [(@Value.str (@Str.ofString "rows_ahead") (nat_lit 736)), (@Value.str (@Str.ofString "rows_ahead") (nat_lit 737)), (@Value.str (@Str.ofString "/claim/cut.py") (nat_lit 738)), (@Value.int (.ofNat (nat_lit 179)) (nat_lit 0)), (@Value.int (.ofNat (nat_lit 1)) (nat_lit 0)), (@Value.int (.ofNat (nat_lit 0)) (nat_lit 0)), (@Value.int (.ofNat (nat_lit 0)) (nat_lit 0)), (@Value.int (.ofNat (nat_lit 3)) (nat_lit 0)), (@Value.ref (nat_lit 417)), (@Value.bool true), (@Value.int (.ofNat (nat_lit 181)) (nat_lit 0)), (@Value.ref (nat_lit 418)), Value.none, (@Value.ref (nat_lit 419)), (@Value.ref (nat_lit 420)), (@Value.ref (nat_lit 421)), (@Value.int (.ofNat (nat_lit 744)) (nat_lit 0)), (@Value.int (.ofNat (nat_lit 179)) (nat_lit 0)), (@Value.str (@Str.ofString "/claim/cut.py") (nat_lit 745))])) (.mk []))
def o423 (P : Params) : Obj := (@Obj.mk (@Value.type "function") none (@Data.func (@FuncData.mk (@Str.ofString "rows_ahead") (@Str.ofString "rows_ahead") (defArgs (topS 50)) (@FuncBody.stmts (defBody (topS 50))) (defScope (topS 50)) (nat_lit 3) [] Value.none Value.none Value.none (@Value.str (@Str.ofString "menuhouses.joining") (nat_lit 705)) none (@Value.ref (nat_lit 422)) Value.none (nat_lit 0))) (.mk []))
def o424 (P : Params) : Obj := (@Obj.mk (@Value.type "tuple") none (@Data.seq (.mk []) (nat_lit 0)) (.mk []))
def o425 (P : Params) : Obj := (@Obj.mk Value.none none (@Data.fields (.mk [])) (.mk []))
def o426 (P : Params) : Obj := (@Obj.mk Value.none none (@Data.func (@FuncData.mk (@Str.ofString "crests_of_steps") (@Str.ofString "crests_of_steps") (defArgs (topS 51)) (@FuncBody.stmts (defBody (topS 51))) (defScope (topS 51)) (nat_lit 0) [] Value.none Value.none Value.none Value.none none Value.none Value.none (nat_lit 0))) (.mk []))
def o427 (P : Params) : Obj := (@Obj.mk (@Value.type "code") none (@Data.fields (.mk [(@Value.str (@Str.ofString "crests_of_steps") (nat_lit 747)), (@Value.str (@Str.ofString "crests_of_steps") (nat_lit 748)), (@Value.str (@Str.ofString "/claim/cut.py") (nat_lit 749)), (@Value.int (.ofNat (nat_lit 186)) (nat_lit 0)), (@Value.int (.ofNat (nat_lit 1)) (nat_lit 0)), (@Value.int (.ofNat (nat_lit 0)) (nat_lit 0)), (@Value.int (.ofNat (nat_lit 0)) (nat_lit 0)), (@Value.int (.ofNat (nat_lit 3)) (nat_lit 0)), (@Value.ref (nat_lit 424)), (@Value.bool true), (@Value.int (.ofNat (nat_lit 181)) (nat_lit 0)), (@Value.ref (nat_lit 425)), Value.none, Value.none, Value.none, (@Value.ref (nat_lit 426)), (@Value.int (.ofNat (nat_lit 750)) (nat_lit 0)), (@Value.int (.ofNat (nat_lit 186)) (nat_lit 0)), (@Value.str (@Str.ofString "/claim/cut.py") (nat_lit 751))])) (.mk []))
def o428 (P : Params) : Obj := (@Obj.mk (@Value.type "function") none (@Data.func (@FuncData.mk (@Str.ofString "crests_of_steps") (@Str.ofString "crests_of_steps") (defArgs (topS 51)) (@FuncBody.stmts (defBody (topS 51))) (defScope (topS 51)) (nat_lit 3) [] Value.none Value.none Value.none (@Value.str (@Str.ofString "menuhouses.joining") (nat_lit 705)) none (@Value.ref (nat_lit 427)) Value.none (nat_lit 0))) (.mk []))
def o429 (P : Params) : Obj := (@Obj.mk (@Value.type "tuple") none (@Data.seq (.mk []) (nat_lit 0)) (.mk []))
def o430 (P : Params) : Obj := (@Obj.mk Value.none none (@Data.fields (.mk [])) (.mk []))
def o431 (P : Params) : Obj := (@Obj.mk Value.none none (@Data.func (@FuncData.mk (@Str.ofString "row_with_crests") (@Str.ofString "row_with_crests") (defArgs (topS 52)) (@FuncBody.stmts (defBody (topS 52))) (defScope (topS 52)) (nat_lit 0) [] Value.none Value.none Value.none Value.none none Value.none Value.none (nat_lit 0))) (.mk []))
def o432 (P : Params) : Obj := (@Obj.mk (@Value.type "code") none (@Data.fields (.mk [(@Value.str (@Str.ofString "row_with_crests") (nat_lit 753)), (@Value.str (@Str.ofString "row_with_crests") (nat_lit 754)), (@Value.str (@Str.ofString "/claim/cut.py") (nat_lit 755)), (@Value.int (.ofNat (nat_lit 192)) (nat_lit 0)), (@Value.int (.ofNat (nat_lit 3)) (nat_lit 0)), (@Value.int (.ofNat (nat_lit 0)) (nat_lit 0)), (@Value.int (.ofNat (nat_lit 0)) (nat_lit 0)), (@Value.int (.ofNat (nat_lit 3)) (nat_lit 0)), (@Value.ref (nat_lit 429)), (@Value.bool true), (@Value.int (.ofNat (nat_lit 181)) (nat_lit 0)), (@Value.ref (nat_lit 430)), Value.none, Value.none, Value.none, (@Value.ref (nat_lit 431)), (@Value.int (.ofNat (nat_lit 756)) (nat_lit 0)), (@Value.int (.ofNat (nat_lit 192)) (nat_lit 0)), (@Value.str (@Str.ofString "/claim/cut.py") (nat_lit 757))])) (.mk []))
def o433 (P : Params) : Obj := (@Obj.mk (@Value.type "function") none (@Data.func (@FuncData.mk (@Str.ofString "row_with_crests") (@Str.ofString "row_with_crests") (defArgs (topS 52)) (@FuncBody.stmts (defBody (topS 52))) (defScope (topS 52)) (nat_lit 3) [] Value.none Value.none Value.none (@Value.str (@Str.ofString "menuhouses.joining") (nat_lit 705)) none (@Value.ref (nat_lit 432)) Value.none (nat_lit 0))) (.mk []))
def o434 (P : Params) : Obj := (@Obj.mk (@Value.type "tuple") none (@Data.seq (.mk []) (nat_lit 0)) (.mk []))
def o435 (P : Params) : Obj := (@Obj.mk Value.none none (@Data.fields (.mk [])) (.mk []))
def o436 (P : Params) : Obj := (@Obj.mk Value.none none (@Data.func (@FuncData.mk (@Str.ofString "fewest_rows") (@Str.ofString "fewest_rows") (defArgs (topS 53)) (@FuncBody.stmts (defBody (topS 53))) (defScope (topS 53)) (nat_lit 0) [] Value.none Value.none Value.none Value.none none Value.none Value.none (nat_lit 0))) (.mk []))
def o437 (P : Params) : Obj := (@Obj.mk (@Value.type "code") none (@Data.fields (.mk [(@Value.str (@Str.ofString "fewest_rows") (nat_lit 759)), (@Value.str (@Str.ofString "fewest_rows") (nat_lit 760)), (@Value.str (@Str.ofString "/claim/cut.py") (nat_lit 761)), (@Value.int (.ofNat (nat_lit 202)) (nat_lit 0)), (@Value.int (.ofNat (nat_lit 1)) (nat_lit 0)), (@Value.int (.ofNat (nat_lit 0)) (nat_lit 0)), (@Value.int (.ofNat (nat_lit 0)) (nat_lit 0)), (@Value.int (.ofNat (nat_lit 3)) (nat_lit 0)), (@Value.ref (nat_lit 434)), (@Value.bool true), (@Value.int (.ofNat (nat_lit 181)) (nat_lit 0)), (@Value.ref (nat_lit 435)), Value.none, Value.none, Value.none, (@Value.ref (nat_lit 436)), (@Value.int (.ofNat (nat_lit 762)) (nat_lit 0)), (@Value.int (.ofNat (nat_lit 202)) (nat_lit 0)), (@Value.str (@Str.ofString "/claim/cut.py") (nat_lit 763))])) (.mk []))
def o438 (P : Params) : Obj := (@Obj.mk (@Value.type "function") none (@Data.func (@FuncData.mk (@Str.ofString "fewest_rows") (@Str.ofString "fewest_rows") (defArgs (topS 53)) (@FuncBody.stmts (defBody (topS 53))) (defScope (topS 53)) (nat_lit 3) [] Value.none Value.none Value.none (@Value.str (@Str.ofString "menuhouses.joining") (nat_lit 705)) none (@Value.ref (nat_lit 437)) Value.none (nat_lit 0))) (.mk []))
def o3v4 (P : Params) : Obj := (@Obj.mk (@Value.type "dict") none (@Data.dict (.mk [(@DictEntry.mk (@PyData.keyHash P (@Str.ofString "__name__")) (@Value.str (@Str.ofString "__name__") (nat_lit 165)) (@Value.str (@Str.ofString "menuhouses.houses") (nat_lit 942))), (@DictEntry.mk (@PyData.keyHash P (@Str.ofString "__doc__")) (@Value.str (@Str.ofString "__doc__") (nat_lit 166)) Value.none), (@DictEntry.mk (@PyData.keyHash P (@Str.ofString "__package__")) (@Value.str (@Str.ofString "__package__") (nat_lit 167)) Value.none), (@DictEntry.mk (@PyData.keyHash P (@Str.ofString "__loader__")) (@Value.str (@Str.ofString "__loader__") (nat_lit 168)) (@Value.builtin "__main__.__loader__#opaque")), (@DictEntry.mk (@PyData.keyHash P (@Str.ofString "__spec__")) (@Value.str (@Str.ofString "__spec__") (nat_lit 169)) Value.none), (@DictEntry.mk (@PyData.keyHash P (@Str.ofString "__annotations__")) (@Value.str (@Str.ofString "__annotations__") (nat_lit 170)) (@Value.ref (nat_lit 6))), (@DictEntry.mk (@PyData.keyHash P (@Str.ofString "__builtins__")) (@Value.str (@Str.ofString "__builtins__") (nat_lit 171)) (@Value.ref (nat_lit 4))), (@DictEntry.mk (@PyData.keyHash P (@Str.ofString "__file__")) (@Value.str (@Str.ofString "__file__") (nat_lit 173)) (@Value.str (@Str.ofString "/claim/cut.py") (nat_lit 172))), (@DictEntry.mk (@PyData.keyHash P (@Str.ofString "__cached__")) (@Value.str (@Str.ofString "__cached__") (nat_lit 174)) Value.none), (@DictEntry.mk (@PyData.keyHash P (@Str.ofString "_wall")) (@Value.str (@Str.ofString "_wall") (nat_lit 193)) (@Value.ref (nat_lit 21))), (@DictEntry.mk (@PyData.keyHash P (@Str.ofString "WrongValue")) (@Value.str (@Str.ofString "WrongValue") (nat_lit 213)) (@Value.ref (nat_lit 31))), (@DictEntry.mk (@PyData.keyHash P (@Str.ofString "InvalidText")) (@Value.str (@Str.ofString "InvalidText") (nat_lit 238)) (@Value.ref (nat_lit 51))), (@DictEntry.mk (@PyData.keyHash P (@Str.ofString "InvalidIndex")) (@Value.str (@Str.ofString "InvalidIndex") (nat_lit 263)) (@Value.ref (nat_lit 70))), (@DictEntry.mk (@PyData.keyHash P (@Str.ofString "NotAHouse")) (@Value.str (@Str.ofString "NotAHouse") (nat_lit 288)) (@Value.ref (nat_lit 89))), (@DictEntry.mk (@PyData.keyHash P (@Str.ofString "OtherThings")) (@Value.str (@Str.ofString "OtherThings") (nat_lit 313)) (@Value.ref (nat_lit 108))), (@DictEntry.mk (@PyData.keyHash P (@Str.ofString "InvalidRow")) (@Value.str (@Str.ofString "InvalidRow") (nat_lit 338)) (@Value.ref (nat_lit 127))), (@DictEntry.mk (@PyData.keyHash P (@Str.ofString "InvalidMenu")) (@Value.str (@Str.ofString "InvalidMenu") (nat_lit 363)) (@Value.ref (nat_lit 146))), (@DictEntry.mk (@PyData.keyHash P (@Str.ofString "InvalidRankings")) (@Value.str (@Str.ofString "InvalidRankings") (nat_lit 388)) (@Value.ref (nat_lit 165))), (@DictEntry.mk (@PyData.keyHash P (@Str.ofString "WrongName")) (@Value.str (@Str.ofString "WrongName") (nat_lit 406)) (@Value.ref (nat_lit 177))), (@DictEntry.mk (@PyData.keyHash P (@Str.ofString "UnknownThing")) (@Value.str (@Str.ofString "UnknownThing") (nat_lit 431)) (@Value.ref (nat_lit 197))), (@DictEntry.mk (@PyData.keyHash P (@Str.ofString "NoAnswer")) (@Value.str (@Str.ofString "NoAnswer") (nat_lit 451)) (@Value.ref (nat_lit 209))), (@DictEntry.mk (@PyData.keyHash P (@Str.ofString "TooMany")) (@Value.str (@Str.ofString "TooMany") (nat_lit 476)) (@Value.ref (nat_lit 229))), (@DictEntry.mk (@PyData.keyHash P (@Str.ofString "NoHouse")) (@Value.str (@Str.ofString "NoHouse") (nat_lit 501)) (@Value.ref (nat_lit 248))), (@DictEntry.mk (@PyData.keyHash P (@Str.ofString "MOST_THINGS")) (@Value.str (@Str.ofString "MOST_THINGS") (nat_lit 503)) (@Value.int (.ofNat (nat_lit 10)) (nat_lit 502))), (@DictEntry.mk (@PyData.keyHash P (@Str.ofString "MOST_PEOPLE")) (@Value.str (@Str.ofString "MOST_PEOPLE") (nat_lit 505)) (@Value.int (.ofNat (nat_lit 24)) (nat_lit 504))), (@DictEntry.mk (@PyData.keyHash P (@Str.ofString "LETTERS")) (@Value.str (@Str.ofString "LETTERS") (nat_lit 509)) (@Value.str (@Str.ofString "abcdefghijklmnopqrstuvwxyz") (nat_lit 508))), (@DictEntry.mk (@PyData.keyHash P (@Str.ofString "DIGITS")) (@Value.str (@Str.ofString "DIGITS") (nat_lit 511)) (@Value.str (@Str.ofString "0123456789") (nat_lit 510))), (@DictEntry.mk (@PyData.keyHash P (@Str.ofString "LONGEST_NAME")) (@Value.str (@Str.ofString "LONGEST_NAME") (nat_lit 513)) (@Value.int (.ofNat (nat_lit 8)) (nat_lit 512))), (@DictEntry.mk (@PyData.keyHash P (@Str.ofString "is_index")) (@Value.str (@Str.ofString "is_index") (nat_lit 521)) (@Value.ref (nat_lit 257))), (@DictEntry.mk (@PyData.keyHash P (@Str.ofString "is_name")) (@Value.str (@Str.ofString "is_name") (nat_lit 527)) (@Value.ref (nat_lit 262))), (@DictEntry.mk (@PyData.keyHash P (@Str.ofString "is_filled_tuple")) (@Value.str (@Str.ofString "is_filled_tuple") (nat_lit 534)) (@Value.ref (nat_lit 269))), (@DictEntry.mk (@PyData.keyHash P (@Str.ofString "is_one_of")) (@Value.str (@Str.ofString "is_one_of") (nat_lit 542)) (@Value.ref (nat_lit 276))), (@DictEntry.mk (@PyData.keyHash P (@Str.ofString "first_wrong_in_row")) (@Value.str (@Str.ofString "first_wrong_in_row") (nat_lit 551)) (@Value.ref (nat_lit 283))), (@DictEntry.mk (@PyData.keyHash P (@Str.ofString "first_wrong_on_menu")) (@Value.str (@Str.ofString "first_wrong_on_menu") (nat_lit 561)) (@Value.ref (nat_lit 290))), (@DictEntry.mk (@PyData.keyHash P (@Str.ofString "check_row")) (@Value.str (@Str.ofString "check_row") (nat_lit 569)) (@Value.ref (nat_lit 297))), (@DictEntry.mk (@PyData.keyHash P (@Str.ofString "check_menu")) (@Value.str (@Str.ofString "check_menu") (nat_lit 578)) (@Value.ref (nat_lit 304))), (@DictEntry.mk (@PyData.keyHash P (@Str.ofString "check_thing")) (@Value.str (@Str.ofString "check_thing") (nat_lit 586)) (@Value.ref (nat_lit 311))), (@DictEntry.mk (@PyData.keyHash P (@Str.ofString "mask_of_all")) (@Value.str (@Str.ofString "mask_of_all") (nat_lit 595)) (@Value.ref (nat_lit 318))), (@DictEntry.mk (@PyData.keyHash P (@Str.ofString "index_of")) (@Value.str (@Str.ofString "index_of") (nat_lit 601)) (@Value.ref (nat_lit 323))), (@DictEntry.mk (@PyData.keyHash P (@Str.ofString "mask_of")) (@Value.str (@Str.ofString "mask_of") (nat_lit 611)) (@Value.ref (nat_lit 330))), (@DictEntry.mk (@PyData.keyHash P (@Str.ofString "indexes_of")) (@Value.str (@Str.ofString "indexes_of") (nat_lit 617)) (@Value.ref (nat_lit 335))), (@DictEntry.mk (@PyData.keyHash P (@Str.ofString "names_of")) (@Value.str (@Str.ofString "names_of") (nat_lit 623)) (@Value.ref (nat_lit 340))), (@DictEntry.mk (@PyData.keyHash P (@Str.ofString "below_masks")) (@Value.str (@Str.ofString "below_masks") (nat_lit 629)) (@Value.ref (nat_lit 345))), (@DictEntry.mk (@PyData.keyHash P (@Str.ofString "is_covered")) (@Value.str (@Str.ofString "is_covered") (nat_lit 638)) (@Value.ref (nat_lit 352))), (@DictEntry.mk (@PyData.keyHash P (@Str.ofString "greatest")) (@Value.str (@Str.ofString "greatest") (nat_lit 647)) (@Value.ref (nat_lit 359))), (@DictEntry.mk (@PyData.keyHash P (@Str.ofString "greater_sets")) (@Value.str (@Str.ofString "greater_sets") (nat_lit 655)) (@Value.ref (nat_lit 364))), (@DictEntry.mk (@PyData.keyHash P (@Str.ofString "pairs_back")) (@Value.str (@Str.ofString "pairs_back") (nat_lit 666)) (@Value.ref (nat_lit 371))), (@DictEntry.mk (@PyData.keyHash P (@Str.ofString "pairs_for")) (@Value.str (@Str.ofString "pairs_for") (nat_lit 680)) (@Value.ref (nat_lit 378))), (@DictEntry.mk (@PyData.keyHash P (@Str.ofString "most_pairs")) (@Value.str (@Str.ofString "most_pairs") (nat_lit 692)) (@Value.ref (nat_lit 385))), (@DictEntry.mk (@PyData.keyHash P (@Str.ofString "chains")) (@Value.str (@Str.ofString "chains") (nat_lit 704)) (@Value.ref (nat_lit 392))), (@DictEntry.mk (@PyData.keyHash P (@Str.ofString "takes")) (@Value.str (@Str.ofString "takes") (nat_lit 715)) (@Value.ref (nat_lit 399))), (@DictEntry.mk (@PyData.keyHash P (@Str.ofString "indexes_taken")) (@Value.str (@Str.ofString "indexes_taken") (nat_lit 721)) (@Value.ref (nat_lit 404))), (@DictEntry.mk (@PyData.keyHash P (@Str.ofString "joining_steps")) (@Value.str (@Str.ofString "joining_steps") (nat_lit 727)) (@Value.ref (nat_lit 409))), (@DictEntry.mk (@PyData.keyHash P (@Str.ofString "dead_end")) (@Value.str (@Str.ofString "dead_end") (nat_lit 735)) (@Value.ref (nat_lit 416))), (@DictEntry.mk (@PyData.keyHash P (@Str.ofString "rows_ahead")) (@Value.str (@Str.ofString "rows_ahead") (nat_lit 746)) (@Value.ref (nat_lit 423))), (@DictEntry.mk (@PyData.keyHash P (@Str.ofString "crests_of_steps")) (@Value.str (@Str.ofString "crests_of_steps") (nat_lit 752)) (@Value.ref (nat_lit 428))), (@DictEntry.mk (@PyData.keyHash P (@Str.ofString "row_with_crests")) (@Value.str (@Str.ofString "row_with_crests") (nat_lit 758)) (@Value.ref (nat_lit 433))), (@DictEntry.mk (@PyData.keyHash P (@Str.ofString "fewest_rows")) (@Value.str (@Str.ofString "fewest_rows") (nat_lit 764)) (@Value.ref (nat_lit 438))), (@DictEntry.mk (@PyData.keyHash P (@Str.ofString "Ranking")) (@Value.str (@Str.ofString "Ranking") (nat_lit 941)) (@Value.ref (nat_lit 571))), (@DictEntry.mk (@PyData.keyHash P (@Str.ofString "check_house")) (@Value.str (@Str.ofString "check_house") (nat_lit 950)) (@Value.ref (nat_lit 582))), (@DictEntry.mk (@PyData.keyHash P (@Str.ofString "check_other_house")) (@Value.str (@Str.ofString "check_other_house") (nat_lit 958)) (@Value.ref (nat_lit 589))), (@DictEntry.mk (@PyData.keyHash P (@Str.ofString "check_rankings")) (@Value.str (@Str.ofString "check_rankings") (nat_lit 967)) (@Value.ref (nat_lit 596))), (@DictEntry.mk (@PyData.keyHash P (@Str.ofString "are_rows_of_a_house")) (@Value.str (@Str.ofString "are_rows_of_a_house") (nat_lit 973)) (@Value.ref (nat_lit 601))), (@DictEntry.mk (@PyData.keyHash P (@Str.ofString "house_of_rows")) (@Value.str (@Str.ofString "house_of_rows") (nat_lit 979)) (@Value.ref (nat_lit 606)))]) (nat_lit 64)) (.mk []))
def o12v5 (P : Params) : Obj := (@Obj.mk Value.none none (@Data.fields (.mk [(@Value.int (.ofNat (nat_lit 1)) (nat_lit 0)), (@Value.int (.ofNat (nat_lit 0)) (nat_lit 0)), (@Value.ref (nat_lit 20)), (@Value.int (.ofNat (nat_lit 5)) (nat_lit 0)), (@Value.int (.ofNat (nat_lit 0)) (nat_lit 0)), (@Value.ref (nat_lit 27)), (@Value.int (.ofNat (nat_lit 7)) (nat_lit 0)), (@Value.int (.ofNat (nat_lit 0)) (nat_lit 0)), (@Value.ref (nat_lit 40)), (@Value.int (.ofNat (nat_lit 11)) (nat_lit 0)), (@Value.int (.ofNat (nat_lit 0)) (nat_lit 0)), (@Value.ref (nat_lit 59)), (@Value.int (.ofNat (nat_lit 15)) (nat_lit 0)), (@Value.int (.ofNat (nat_lit 0)) (nat_lit 0)), (@Value.ref (nat_lit 78)), (@Value.int (.ofNat (nat_lit 19)) (nat_lit 0)), (@Value.int (.ofNat (nat_lit 0)) (nat_lit 0)), (@Value.ref (nat_lit 97)), (@Value.int (.ofNat (nat_lit 23)) (nat_lit 0)), (@Value.int (.ofNat (nat_lit 0)) (nat_lit 0)), (@Value.ref (nat_lit 116)), (@Value.int (.ofNat (nat_lit 27)) (nat_lit 0)), (@Value.int (.ofNat (nat_lit 0)) (nat_lit 0)), (@Value.ref (nat_lit 135)), (@Value.int (.ofNat (nat_lit 31)) (nat_lit 0)), (@Value.int (.ofNat (nat_lit 0)) (nat_lit 0)), (@Value.ref (nat_lit 154)), (@Value.int (.ofNat (nat_lit 35)) (nat_lit 0)), (@Value.int (.ofNat (nat_lit 0)) (nat_lit 0)), (@Value.ref (nat_lit 173)), (@Value.int (.ofNat (nat_lit 37)) (nat_lit 0)), (@Value.int (.ofNat (nat_lit 0)) (nat_lit 0)), (@Value.ref (nat_lit 186)), (@Value.int (.ofNat (nat_lit 41)) (nat_lit 0)), (@Value.int (.ofNat (nat_lit 0)) (nat_lit 0)), (@Value.ref (nat_lit 205)), (@Value.int (.ofNat (nat_lit 43)) (nat_lit 0)), (@Value.int (.ofNat (nat_lit 0)) (nat_lit 0)), (@Value.ref (nat_lit 218)), (@Value.int (.ofNat (nat_lit 47)) (nat_lit 0)), (@Value.int (.ofNat (nat_lit 0)) (nat_lit 0)), (@Value.ref (nat_lit 237)), (@Value.int (.ofNat (nat_lit 57)) (nat_lit 0)), (@Value.int (.ofNat (nat_lit 0)) (nat_lit 0)), (@Value.ref (nat_lit 256)), (@Value.int (.ofNat (nat_lit 59)) (nat_lit 0)), (@Value.int (.ofNat (nat_lit 0)) (nat_lit 0)), (@Value.ref (nat_lit 261)), (@Value.int (.ofNat (nat_lit 63)) (nat_lit 0)), (@Value.int (.ofNat (nat_lit 0)) (nat_lit 0)), (@Value.ref (nat_lit 268)), (@Value.int (.ofNat (nat_lit 65)) (nat_lit 0)), (@Value.int (.ofNat (nat_lit 0)) (nat_lit 0)), (@Value.ref (nat_lit 275)), (@Value.int (.ofNat (nat_lit 67)) (nat_lit 0)), (@Value.int (.ofNat (nat_lit 0)) (nat_lit 0)), (@Value.ref (nat_lit 282)), (@Value.int (.ofNat (nat_lit 72)) (nat_lit 0)), (@Value.int (.ofNat (nat_lit 0)) (nat_lit 0)), (@Value.ref (nat_lit 289)), (@Value.int (.ofNat (nat_lit 79)) (nat_lit 0)), (@Value.int (.ofNat (nat_lit 0)) (nat_lit 0)), (@Value.ref (nat_lit 296)), (@Value.int (.ofNat (nat_lit 85)) (nat_lit 0)), (@Value.int (.ofNat (nat_lit 0)) (nat_lit 0)), (@Value.ref (nat_lit 303)), (@Value.int (.ofNat (nat_lit 91)) (nat_lit 0)), (@Value.int (.ofNat (nat_lit 0)) (nat_lit 0)), (@Value.ref (nat_lit 310)), (@Value.int (.ofNat (nat_lit 95)) (nat_lit 0)), (@Value.int (.ofNat (nat_lit 0)) (nat_lit 0)), (@Value.ref (nat_lit 317)), (@Value.int (.ofNat (nat_lit 97)) (nat_lit 0)), (@Value.int (.ofNat (nat_lit 0)) (nat_lit 0)), (@Value.ref (nat_lit 322)), (@Value.int (.ofNat (nat_lit 99)) (nat_lit 0)), (@Value.int (.ofNat (nat_lit 0)) (nat_lit 0)), (@Value.ref (nat_lit 329)), (@Value.int (.ofNat (nat_lit 104)) (nat_lit 0)), (@Value.int (.ofNat (nat_lit 0)) (nat_lit 0)), (@Value.ref (nat_lit 334)), (@Value.int (.ofNat (nat_lit 106)) (nat_lit 0)), (@Value.int (.ofNat (nat_lit 0)) (nat_lit 0)), (@Value.ref (nat_lit 339)), (@Value.int (.ofNat (nat_lit 108)) (nat_lit 0)), (@Value.int (.ofNat (nat_lit 0)) (nat_lit 0)), (@Value.ref (nat_lit 344)), (@Value.int (.ofNat (nat_lit 110)) (nat_lit 0)), (@Value.int (.ofNat (nat_lit 0)) (nat_lit 0)), (@Value.ref (nat_lit 351)), (@Value.int (.ofNat (nat_lit 115)) (nat_lit 0)), (@Value.int (.ofNat (nat_lit 0)) (nat_lit 0)), (@Value.ref (nat_lit 358)), (@Value.int (.ofNat (nat_lit 122)) (nat_lit 0)), (@Value.int (.ofNat (nat_lit 0)) (nat_lit 0)), (@Value.ref (nat_lit 363)), (@Value.int (.ofNat (nat_lit 124)) (nat_lit 0)), (@Value.int (.ofNat (nat_lit 0)) (nat_lit 0)), (@Value.ref (nat_lit 370)), (@Value.int (.ofNat (nat_lit 130)) (nat_lit 0)), (@Value.int (.ofNat (nat_lit 0)) (nat_lit 0)), (@Value.ref (nat_lit 377)), (@Value.int (.ofNat (nat_lit 142)) (nat_lit 0)), (@Value.int (.ofNat (nat_lit 0)) (nat_lit 0)), (@Value.ref (nat_lit 384)), (@Value.int (.ofNat (nat_lit 150)) (nat_lit 0)), (@Value.int (.ofNat (nat_lit 0)) (nat_lit 0)), (@Value.ref (nat_lit 391)), (@Value.int (.ofNat (nat_lit 161)) (nat_lit 0)), (@Value.int (.ofNat (nat_lit 0)) (nat_lit 0)), (@Value.ref (nat_lit 398)), (@Value.int (.ofNat (nat_lit 163)) (nat_lit 0)), (@Value.int (.ofNat (nat_lit 0)) (nat_lit 0)), (@Value.ref (nat_lit 403)), (@Value.int (.ofNat (nat_lit 165)) (nat_lit 0)), (@Value.int (.ofNat (nat_lit 0)) (nat_lit 0)), (@Value.ref (nat_lit 408)), (@Value.int (.ofNat (nat_lit 174)) (nat_lit 0)), (@Value.int (.ofNat (nat_lit 0)) (nat_lit 0)), (@Value.ref (nat_lit 415)), (@Value.int (.ofNat (nat_lit 179)) (nat_lit 0)), (@Value.int (.ofNat (nat_lit 0)) (nat_lit 0)), (@Value.ref (nat_lit 422)), (@Value.int (.ofNat (nat_lit 186)) (nat_lit 0)), (@Value.int (.ofNat (nat_lit 0)) (nat_lit 0)), (@Value.ref (nat_lit 427)), (@Value.int (.ofNat (nat_lit 192)) (nat_lit 0)), (@Value.int (.ofNat (nat_lit 0)) (nat_lit 0)), (@Value.ref (nat_lit 432)), (@Value.int (.ofNat (nat_lit 202)) (nat_lit 0)), (@Value.int (.ofNat (nat_lit 0)) (nat_lit 0)), (@Value.ref (nat_lit 437)), (@Value.int (.ofNat (nat_lit 208)) (nat_lit 0)), (@Value.int (.ofNat (nat_lit 0)) (nat_lit 0)), (@Value.ref (nat_lit 444)), (@Value.int (.ofNat (nat_lit 278)) (nat_lit 0)), (@Value.int (.ofNat (nat_lit 0)) (nat_lit 0)), (@Value.ref (nat_lit 581)), (@Value.int (.ofNat (nat_lit 281)) (nat_lit 0)), (@Value.int (.ofNat (nat_lit 0)) (nat_lit 0)), (@Value.ref (nat_lit 588)), (@Value.int (.ofNat (nat_lit 285)) (nat_lit 0)), (@Value.int (.ofNat (nat_lit 0)) (nat_lit 0)), (@Value.ref (nat_lit 595)), (@Value.int (.ofNat (nat_lit 291)) (nat_lit 0)), (@Value.int (.ofNat (nat_lit 0)) (nat_lit 0)), (@Value.ref (nat_lit 600)), (@Value.int (.ofNat (nat_lit 298)) (nat_lit 0)), (@Value.int (.ofNat (nat_lit 0)) (nat_lit 0)), (@Value.ref (nat_lit 605))])) (.mk []))
def o439 (P : Params) : Obj := (@Obj.mk (@Value.type "tuple") none (@Data.seq (.mk []) (nat_lit 0)) (.mk []))
def o440 (P : Params) : Obj := (@Obj.mk (@Value.type "builtin_function_or_method") none (@Data.fields (.mk [(@Value.builtin "type.__prepare__"), (@Value.type "type")])) (.mk []))
def o441 (P : Params) : Obj := (@Obj.mk (@Value.type "dict") none (@Data.dict (.mk [(@DictEntry.mk (@PyData.keyHash P (@Str.ofString "__module__")) (@Value.str (@Str.ofString "__module__") (nat_lit 774)) (@Value.str (@Str.ofString "menuhouses.rankings") (nat_lit 765))), (@DictEntry.mk (@PyData.keyHash P (@Str.ofString "__qualname__")) (@Value.str (@Str.ofString "__qualname__") (nat_lit 776)) (@Value.str (@Str.ofString "Ranking") (nat_lit 775))), (@DictEntry.mk (@PyData.keyHash P (@Str.ofString "__firstlineno__")) (@Value.str (@Str.ofString "__firstlineno__") (nat_lit 778)) (@Value.int (.ofNat (nat_lit 208)) (nat_lit 777))), (@DictEntry.mk (@PyData.keyHash P (@Str.ofString "__init__")) (@Value.str (@Str.ofString "__init__") (nat_lit 786)) (@Value.ref (nat_lit 452))), (@DictEntry.mk (@PyData.keyHash P (@Str.ofString "of")) (@Value.str (@Str.ofString "of") (nat_lit 806)) (@Value.ref (nat_lit 461))), (@DictEntry.mk (@PyData.keyHash P (@Str.ofString "read")) (@Value.str (@Str.ofString "read") (nat_lit 827)) (@Value.ref (nat_lit 471))), (@DictEntry.mk (@PyData.keyHash P (@Str.ofString "row")) (@Value.str (@Str.ofString "row") (nat_lit 835)) (@Value.ref (nat_lit 480))), (@DictEntry.mk (@PyData.keyHash P (@Str.ofString "things")) (@Value.str (@Str.ofString "things") (nat_lit 843)) (@Value.ref (nat_lit 488))), (@DictEntry.mk (@PyData.keyHash P (@Str.ofString "best")) (@Value.str (@Str.ofString "best") (nat_lit 849)) (@Value.ref (nat_lit 493))), (@DictEntry.mk (@PyData.keyHash P (@Str.ofString "below")) (@Value.str (@Str.ofString "below") (nat_lit 857)) (@Value.ref (nat_lit 500))), (@DictEntry.mk (@PyData.keyHash P (@Str.ofString "place")) (@Value.str (@Str.ofString "place") (nat_lit 865)) (@Value.ref (nat_lit 507))), (@DictEntry.mk (@PyData.keyHash P (@Str.ofString "without")) (@Value.str (@Str.ofString "without") (nat_lit 871)) (@Value.ref (nat_lit 512))), (@DictEntry.mk (@PyData.keyHash P (@Str.ofString "__getitem__")) (@Value.str (@Str.ofString "__getitem__") (nat_lit 879)) (@Value.ref (nat_lit 519))), (@DictEntry.mk (@PyData.keyHash P (@Str.ofString "__iter__")) (@Value.str (@Str.ofString "__iter__") (nat_lit 886)) (@Value.ref (nat_lit 526))), (@DictEntry.mk (@PyData.keyHash P (@Str.ofString "__contains__")) (@Value.str (@Str.ofString "__contains__") (nat_lit 894)) (@Value.ref (nat_lit 533))), (@DictEntry.mk (@PyData.keyHash P (@Str.ofString "__neg__")) (@Value.str (@Str.ofString "__neg__") (nat_lit 901)) (@Value.ref (nat_lit 540))), (@DictEntry.mk (@PyData.keyHash P (@Str.ofString "__len__")) (@Value.str (@Str.ofString "__len__") (nat_lit 908)) (@Value.ref (nat_lit 547))), (@DictEntry.mk (@PyData.keyHash P (@Str.ofString "__str__")) (@Value.str (@Str.ofString "__str__") (nat_lit 915)) (@Value.ref (nat_lit 554))), (@DictEntry.mk (@PyData.keyHash P (@Str.ofString "__repr__")) (@Value.str (@Str.ofString "__repr__") (nat_lit 922)) (@Value.ref (nat_lit 561))), (@DictEntry.mk (@PyData.keyHash P (@Str.ofString "__eq__")) (@Value.str (@Str.ofString "__eq__") (nat_lit 930)) (@Value.ref (nat_lit 568))), (@DictEntry.mk (@PyData.keyHash P (@Str.ofString "__static_attributes__")) (@Value.str (@Str.ofString "__static_attributes__") (nat_lit 933)) (@Value.ref (nat_lit 569)))]) (nat_lit 21)) (.mk []))
def o442 (P : Params) : Obj := (@Obj.mk (@Value.type "tuple") none (@Data.seq (.mk []) (nat_lit 0)) (.mk []))
def o443 (P : Params) : Obj := (@Obj.mk Value.none none (@Data.fields (.mk [(@Value.int (.ofNat (nat_lit 210)) (nat_lit 0)), (@Value.int (.ofNat (nat_lit 4)) (nat_lit 0)), (@Value.ref (nat_lit 451)), (@Value.int (.ofNat (nat_lit 216)) (nat_lit 0)), (@Value.int (.ofNat (nat_lit 4)) (nat_lit 0)), (@Value.ref (nat_lit 458)), (@Value.int (.ofNat (nat_lit 220)) (nat_lit 0)), (@Value.int (.ofNat (nat_lit 4)) (nat_lit 0)), (@Value.ref (nat_lit 468)), (@Value.int (.ofNat (nat_lit 229)) (nat_lit 0)), (@Value.int (.ofNat (nat_lit 4)) (nat_lit 0)), (@Value.ref (nat_lit 478)), (@Value.int (.ofNat (nat_lit 233)) (nat_lit 0)), (@Value.int (.ofNat (nat_lit 4)) (nat_lit 0)), (@Value.ref (nat_lit 486)), (@Value.int (.ofNat (nat_lit 236)) (nat_lit 0)), (@Value.int (.ofNat (nat_lit 4)) (nat_lit 0)), (@Value.ref (nat_lit 492)), (@Value.int (.ofNat (nat_lit 240)) (nat_lit 0)), (@Value.int (.ofNat (nat_lit 4)) (nat_lit 0)), (@Value.ref (nat_lit 499)), (@Value.int (.ofNat (nat_lit 243)) (nat_lit 0)), (@Value.int (.ofNat (nat_lit 4)) (nat_lit 0)), (@Value.ref (nat_lit 506)), (@Value.int (.ofNat (nat_lit 247)) (nat_lit 0)), (@Value.int (.ofNat (nat_lit 4)) (nat_lit 0)), (@Value.ref (nat_lit 511)), (@Value.int (.ofNat (nat_lit 252)) (nat_lit 0)), (@Value.int (.ofNat (nat_lit 4)) (nat_lit 0)), (@Value.ref (nat_lit 518)), (@Value.int (.ofNat (nat_lit 257)) (nat_lit 0)), (@Value.int (.ofNat (nat_lit 4)) (nat_lit 0)), (@Value.ref (nat_lit 525)), (@Value.int (.ofNat (nat_lit 260)) (nat_lit 0)), (@Value.int (.ofNat (nat_lit 4)) (nat_lit 0)), (@Value.ref (nat_lit 532)), (@Value.int (.ofNat (nat_lit 263)) (nat_lit 0)), (@Value.int (.ofNat (nat_lit 4)) (nat_lit 0)), (@Value.ref (nat_lit 539)), (@Value.int (.ofNat (nat_lit 266)) (nat_lit 0)), (@Value.int (.ofNat (nat_lit 4)) (nat_lit 0)), (@Value.ref (nat_lit 546)), (@Value.int (.ofNat (nat_lit 269)) (nat_lit 0)), (@Value.int (.ofNat (nat_lit 4)) (nat_lit 0)), (@Value.ref (nat_lit 553)), (@Value.int (.ofNat (nat_lit 272)) (nat_lit 0)), (@Value.int (.ofNat (nat_lit 4)) (nat_lit 0)), (@Value.ref (nat_lit 560)), (@Value.int (.ofNat (nat_lit 275)) (nat_lit 0)), (@Value.int (.ofNat (nat_lit 4)) (nat_lit 0)), (@Value.ref (nat_lit 567))])) (.mk []))
def o444 (P : Params) : Obj := (@Obj.mk (@Value.type "code") none (@Data.fields (.mk [(@Value.str (@Str.ofString "Ranking") (nat_lit 769)), (@Value.str (@Str.ofString "Ranking") (nat_lit 770)), (@Value.str (@Str.ofString "/claim/cut.py") (nat_lit 771)), (@Value.int (.ofNat (nat_lit 208)) (nat_lit 0)), (@Value.int (.ofNat (nat_lit 0)) (nat_lit 0)), (@Value.int (.ofNat (nat_lit 0)) (nat_lit 0)), (@Value.int (.ofNat (nat_lit 0)) (nat_lit 0)), (@Value.int (.ofNat (nat_lit 0)) (nat_lit 0)), (@Value.ref (nat_lit 442)), (@Value.bool false), (@Value.int (.ofNat (nat_lit 181)) (nat_lit 0)), (@Value.ref (nat_lit 443)), Value.none, Value.none, Value.none, Value.none, (@Value.int (.ofNat (nat_lit 772)) (nat_lit 0)), (@Value.int (.ofNat (nat_lit 208)) (nat_lit 0)), (@Value.str (@Str.ofString "/claim/cut.py") (nat_lit 773))])) (.mk []))
def o445 (P : Params) : Obj := (@Obj.mk (@Value.type "frame") none Data.plain (.mk [(some (@Value.ref (nat_lit 444))), (some (@Value.ref (nat_lit 3))), (some (@Value.ref (nat_lit 441))), none, (some (@Value.str (@Str.ofString "menuhouses.rankings") (nat_lit 765))), none, (some (@Value.ref (nat_lit 0)))]))
def o446 (P : Params) : Obj := (@Obj.mk (@Value.type "tuple") none (@Data.seq (.mk []) (nat_lit 0)) (.mk []))
def o447 (P : Params) : Obj := (@Obj.mk Value.none none (@Data.fields (.mk [])) (.mk []))
def o448 (P : Params) : Obj := (@Obj.mk (@Value.type "tuple") none (@Data.seq (.mk [(@Value.str (@Str.ofString "self") (nat_lit 782)), (@Value.str (@Str.ofString "row") (nat_lit 783))]) (nat_lit 0)) (.mk []))
def o449 (P : Params) : Obj := (@Obj.mk (@Value.type "tuple") none (@Data.seq (.mk []) (nat_lit 0)) (.mk []))
def o450 (P : Params) : Obj := (@Obj.mk Value.none none (@Data.func (@FuncData.mk (@Str.ofString "__init__") (@Str.ofString "Ranking.__init__") (defArgs (inClass (topS 55) 0)) (@FuncBody.stmts (defBody (inClass (topS 55) 0))) (defScope (inClass (topS 55) 0)) (nat_lit 0) [] Value.none Value.none Value.none Value.none none Value.none Value.none (nat_lit 0))) (.mk []))
def o451 (P : Params) : Obj := (@Obj.mk (@Value.type "code") none (@Data.fields (.mk [(@Value.str (@Str.ofString "__init__") (nat_lit 779)), (@Value.str (@Str.ofString "Ranking.__init__") (nat_lit 780)), (@Value.str (@Str.ofString "/claim/cut.py") (nat_lit 781)), (@Value.int (.ofNat (nat_lit 210)) (nat_lit 0)), (@Value.int (.ofNat (nat_lit 2)) (nat_lit 0)), (@Value.int (.ofNat (nat_lit 0)) (nat_lit 0)), (@Value.int (.ofNat (nat_lit 0)) (nat_lit 0)), (@Value.int (.ofNat (nat_lit 3)) (nat_lit 0)), (@Value.ref (nat_lit 446)), (@Value.bool true), (@Value.int (.ofNat (nat_lit 181)) (nat_lit 0)), (@Value.ref (nat_lit 447)), Value.none, (@Value.ref (nat_lit 448)), (@Value.ref (nat_lit 449)), (@Value.ref (nat_lit 450)), (@Value.int (.ofNat (nat_lit 784)) (nat_lit 0)), (@Value.int (.ofNat (nat_lit 210)) (nat_lit 0)), (@Value.str (@Str.ofString "/claim/cut.py") (nat_lit 785))])) (.mk []))
def o452 (P : Params) : Obj := (@Obj.mk (@Value.type "function") none (@Data.func (@FuncData.mk (@Str.ofString "__init__") (@Str.ofString "Ranking.__init__") (defArgs (inClass (topS 55) 0)) (@FuncBody.stmts (defBody (inClass (topS 55) 0))) (defScope (inClass (topS 55) 0)) (nat_lit 3) [] Value.none Value.none Value.none (@Value.str (@Str.ofString "menuhouses.rankings") (nat_lit 765)) none (@Value.ref (nat_lit 451)) Value.none (nat_lit 0))) (.mk []))
def o453 (P : Params) : Obj := (@Obj.mk (@Value.type "tuple") none (@Data.seq (.mk []) (nat_lit 0)) (.mk []))
def o454 (P : Params) : Obj := (@Obj.mk Value.none none (@Data.fields (.mk [])) (.mk []))
def o455 (P : Params) : Obj := (@Obj.mk (@Value.type "tuple") none (@Data.seq (.mk [(@Value.str (@Str.ofString "cls") (nat_lit 790)), (@Value.str (@Str.ofString "names") (nat_lit 791))]) (nat_lit 0)) (.mk []))
def o456 (P : Params) : Obj := (@Obj.mk (@Value.type "tuple") none (@Data.seq (.mk []) (nat_lit 0)) (.mk []))
def o457 (P : Params) : Obj := (@Obj.mk Value.none none (@Data.func (@FuncData.mk (@Str.ofString "of") (@Str.ofString "Ranking.of") (defArgs (inClass (topS 55) 1)) (@FuncBody.stmts (defBody (inClass (topS 55) 1))) (defScope (inClass (topS 55) 1)) (nat_lit 0) [] Value.none Value.none Value.none Value.none none Value.none Value.none (nat_lit 0))) (.mk []))
def o458 (P : Params) : Obj := (@Obj.mk (@Value.type "code") none (@Data.fields (.mk [(@Value.str (@Str.ofString "of") (nat_lit 787)), (@Value.str (@Str.ofString "Ranking.of") (nat_lit 788)), (@Value.str (@Str.ofString "/claim/cut.py") (nat_lit 789)), (@Value.int (.ofNat (nat_lit 215)) (nat_lit 0)), (@Value.int (.ofNat (nat_lit 1)) (nat_lit 0)), (@Value.int (.ofNat (nat_lit 0)) (nat_lit 0)), (@Value.int (.ofNat (nat_lit 0)) (nat_lit 0)), (@Value.int (.ofNat (nat_lit 7)) (nat_lit 0)), (@Value.ref (nat_lit 453)), (@Value.bool true), (@Value.int (.ofNat (nat_lit 181)) (nat_lit 0)), (@Value.ref (nat_lit 454)), Value.none, (@Value.ref (nat_lit 455)), (@Value.ref (nat_lit 456)), (@Value.ref (nat_lit 457)), (@Value.int (.ofNat (nat_lit 792)) (nat_lit 0)), (@Value.int (.ofNat (nat_lit 215)) (nat_lit 0)), (@Value.str (@Str.ofString "/claim/cut.py") (nat_lit 793))])) (.mk []))
def o459 (P : Params) : Obj := (@Obj.mk (@Value.type "function") none (@Data.func (@FuncData.mk (@Str.ofString "of") (@Str.ofString "Ranking.of") (defArgs (inClass (topS 55) 1)) (@FuncBody.stmts (defBody (inClass (topS 55) 1))) (defScope (inClass (topS 55) 1)) (nat_lit 3) [] Value.none Value.none Value.none (@Value.str (@Str.ofString "menuhouses.rankings") (nat_lit 765)) (some (nat_lit 462)) (@Value.ref (nat_lit 458)) Value.none (nat_lit 0))) (.mk []))
def o460 (P : Params) : Obj := (@Obj.mk (@Value.type "dict") none (@Data.dict (.mk [(@DictEntry.mk (@PyData.keyHash P (@Str.ofString "__module__")) (@Value.str (@Str.ofString "__module__") (nat_lit 795)) (@Value.str (@Str.ofString "menuhouses.rankings") (nat_lit 765))), (@DictEntry.mk (@PyData.keyHash P (@Str.ofString "__name__")) (@Value.str (@Str.ofString "__name__") (nat_lit 798)) (@Value.str (@Str.ofString "of") (nat_lit 797))), (@DictEntry.mk (@PyData.keyHash P (@Str.ofString "__qualname__")) (@Value.str (@Str.ofString "__qualname__") (nat_lit 801)) (@Value.str (@Str.ofString "Ranking.of") (nat_lit 800))), (@DictEntry.mk (@PyData.keyHash P (@Str.ofString "__doc__")) (@Value.str (@Str.ofString "__doc__") (nat_lit 803)) Value.none), (@DictEntry.mk (@PyData.keyHash P (@Str.ofString "__annotations__")) (@Value.str (@Str.ofString "__annotations__") (nat_lit 805)) (@Value.ref (nat_lit 462)))]) (nat_lit 5)) (.mk []))
def o461 (P : Params) : Obj := (@Obj.mk (@Value.type "classmethod") (some (nat_lit 460)) (@Data.fields (.mk [(@Value.ref (nat_lit 459)), (@Value.bool false)])) (.mk []))
def o462 (P : Params) : Obj := (@Obj.mk (@Value.type "dict") none (@Data.dict (.mk []) (nat_lit 0)) (.mk []))
def o463 (P : Params) : Obj := (@Obj.mk (@Value.type "tuple") none (@Data.seq (.mk []) (nat_lit 0)) (.mk []))
def o464 (P : Params) : Obj := (@Obj.mk Value.none none (@Data.fields (.mk [])) (.mk []))
def o465 (P : Params) : Obj := (@Obj.mk (@Value.type "tuple") none (@Data.seq (.mk [(@Value.str (@Str.ofString "cls") (nat_lit 810)), (@Value.str (@Str.ofString "text") (nat_lit 811)), (@Value.str (@Str.ofString "row") (nat_lit 812))]) (nat_lit 0)) (.mk []))
def o466 (P : Params) : Obj := (@Obj.mk (@Value.type "tuple") none (@Data.seq (.mk []) (nat_lit 0)) (.mk []))
def o467 (P : Params) : Obj := (@Obj.mk Value.none none (@Data.func (@FuncData.mk (@Str.ofString "read") (@Str.ofString "Ranking.read") (defArgs (inClass (topS 55) 2)) (@FuncBody.stmts (defBody (inClass (topS 55) 2))) (defScope (inClass (topS 55) 2)) (nat_lit 0) [] Value.none Value.none Value.none Value.none none Value.none Value.none (nat_lit 0))) (.mk []))
def o468 (P : Params) : Obj := (@Obj.mk (@Value.type "code") none (@Data.fields (.mk [(@Value.str (@Str.ofString "read") (nat_lit 807)), (@Value.str (@Str.ofString "Ranking.read") (nat_lit 808)), (@Value.str (@Str.ofString "/claim/cut.py") (nat_lit 809)), (@Value.int (.ofNat (nat_lit 219)) (nat_lit 0)), (@Value.int (.ofNat (nat_lit 2)) (nat_lit 0)), (@Value.int (.ofNat (nat_lit 0)) (nat_lit 0)), (@Value.int (.ofNat (nat_lit 0)) (nat_lit 0)), (@Value.int (.ofNat (nat_lit 3)) (nat_lit 0)), (@Value.ref (nat_lit 463)), (@Value.bool true), (@Value.int (.ofNat (nat_lit 181)) (nat_lit 0)), (@Value.ref (nat_lit 464)), Value.none, (@Value.ref (nat_lit 465)), (@Value.ref (nat_lit 466)), (@Value.ref (nat_lit 467)), (@Value.int (.ofNat (nat_lit 813)) (nat_lit 0)), (@Value.int (.ofNat (nat_lit 219)) (nat_lit 0)), (@Value.str (@Str.ofString "/claim/cut.py") (nat_lit 814))])) (.mk []))
def o469 (P : Params) : Obj := (@Obj.mk (@Value.type "function") none (@Data.func (@FuncData.mk (@Str.ofString "read") (@Str.ofString "Ranking.read") (defArgs (inClass (topS 55) 2)) (@FuncBody.stmts (defBody (inClass (topS 55) 2))) (defScope (inClass (topS 55) 2)) (nat_lit 3) [] Value.none Value.none Value.none (@Value.str (@Str.ofString "menuhouses.rankings") (nat_lit 765)) (some (nat_lit 472)) (@Value.ref (nat_lit 468)) Value.none (nat_lit 0))) (.mk []))
def o470 (P : Params) : Obj := (@Obj.mk (@Value.type "dict") none (@Data.dict (.mk [(@DictEntry.mk (@PyData.keyHash P (@Str.ofString "__module__")) (@Value.str (@Str.ofString "__module__") (nat_lit 816)) (@Value.str (@Str.ofString "menuhouses.rankings") (nat_lit 765))), (@DictEntry.mk (@PyData.keyHash P (@Str.ofString "__name__")) (@Value.str (@Str.ofString "__name__") (nat_lit 819)) (@Value.str (@Str.ofString "read") (nat_lit 818))), (@DictEntry.mk (@PyData.keyHash P (@Str.ofString "__qualname__")) (@Value.str (@Str.ofString "__qualname__") (nat_lit 822)) (@Value.str (@Str.ofString "Ranking.read") (nat_lit 821))), (@DictEntry.mk (@PyData.keyHash P (@Str.ofString "__doc__")) (@Value.str (@Str.ofString "__doc__") (nat_lit 824)) Value.none), (@DictEntry.mk (@PyData.keyHash P (@Str.ofString "__annotations__")) (@Value.str (@Str.ofString "__annotations__") (nat_lit 826)) (@Value.ref (nat_lit 472)))]) (nat_lit 5)) (.mk []))
def o471 (P : Params) : Obj := (@Obj.mk (@Value.type "classmethod") (some (nat_lit 470)) (@Data.fields (.mk [(@Value.ref (nat_lit 469)), (@Value.bool false)])) (.mk []))
def o472 (P : Params) : Obj := (@Obj.mk (@Value.type "dict") none (@Data.dict (.mk []) (nat_lit 0)) (.mk []))
def o473 (P : Params) : Obj := (@Obj.mk (@Value.type "tuple") none (@Data.seq (.mk []) (nat_lit 0)) (.mk []))
def o474 (P : Params) : Obj := (@Obj.mk Value.none none (@Data.fields (.mk [])) (.mk []))
def o475 (P : Params) : Obj := (@Obj.mk (@Value.type "tuple") none (@Data.seq (.mk [(@Value.str (@Str.ofString "self") (nat_lit 831))]) (nat_lit 0)) (.mk []))
def o476 (P : Params) : Obj := (@Obj.mk (@Value.type "tuple") none (@Data.seq (.mk []) (nat_lit 0)) (.mk []))
def o477 (P : Params) : Obj := (@Obj.mk Value.none none (@Data.func (@FuncData.mk (@Str.ofString "row") (@Str.ofString "Ranking.row") (defArgs (inClass (topS 55) 3)) (@FuncBody.stmts (defBody (inClass (topS 55) 3))) (defScope (inClass (topS 62) 4)) (nat_lit 0) [] Value.none Value.none Value.none Value.none none Value.none Value.none (nat_lit 0))) (.mk []))
def o478 (P : Params) : Obj := (@Obj.mk (@Value.type "code") none (@Data.fields (.mk [(@Value.str (@Str.ofString "row") (nat_lit 828)), (@Value.str (@Str.ofString "Ranking.row") (nat_lit 829)), (@Value.str (@Str.ofString "/claim/cut.py") (nat_lit 830)), (@Value.int (.ofNat (nat_lit 228)) (nat_lit 0)), (@Value.int (.ofNat (nat_lit 1)) (nat_lit 0)), (@Value.int (.ofNat (nat_lit 0)) (nat_lit 0)), (@Value.int (.ofNat (nat_lit 0)) (nat_lit 0)), (@Value.int (.ofNat (nat_lit 3)) (nat_lit 0)), (@Value.ref (nat_lit 473)), (@Value.bool true), (@Value.int (.ofNat (nat_lit 181)) (nat_lit 0)), (@Value.ref (nat_lit 474)), Value.none, (@Value.ref (nat_lit 475)), (@Value.ref (nat_lit 476)), (@Value.ref (nat_lit 477)), (@Value.int (.ofNat (nat_lit 832)) (nat_lit 0)), (@Value.int (.ofNat (nat_lit 228)) (nat_lit 0)), (@Value.str (@Str.ofString "/claim/cut.py") (nat_lit 833))])) (.mk []))
def o479 (P : Params) : Obj := (@Obj.mk (@Value.type "function") none (@Data.func (@FuncData.mk (@Str.ofString "row") (@Str.ofString "Ranking.row") (defArgs (inClass (topS 55) 3)) (@FuncBody.stmts (defBody (inClass (topS 55) 3))) (defScope (inClass (topS 62) 4)) (nat_lit 3) [] Value.none Value.none Value.none (@Value.str (@Str.ofString "menuhouses.rankings") (nat_lit 765)) none (@Value.ref (nat_lit 478)) Value.none (nat_lit 0))) (.mk []))
def o480 (P : Params) : Obj := (@Obj.mk (@Value.type "property") none (@Data.fields (.mk [(@Value.ref (nat_lit 479)), Value.none, Value.none, Value.none, (@Value.str (@Str.ofString "row") (nat_lit 835)), (@Value.bool false)])) (.mk []))
def o481 (P : Params) : Obj := (@Obj.mk (@Value.type "tuple") none (@Data.seq (.mk []) (nat_lit 0)) (.mk []))
def o482 (P : Params) : Obj := (@Obj.mk Value.none none (@Data.fields (.mk [])) (.mk []))
def o483 (P : Params) : Obj := (@Obj.mk (@Value.type "tuple") none (@Data.seq (.mk [(@Value.str (@Str.ofString "self") (nat_lit 839))]) (nat_lit 0)) (.mk []))
def o484 (P : Params) : Obj := (@Obj.mk (@Value.type "tuple") none (@Data.seq (.mk []) (nat_lit 0)) (.mk []))
def o485 (P : Params) : Obj := (@Obj.mk Value.none none (@Data.func (@FuncData.mk (@Str.ofString "things") (@Str.ofString "Ranking.things") (defArgs (inClass (topS 55) 4)) (@FuncBody.stmts (defBody (inClass (topS 55) 4))) (defScope (inClass (topS 62) 4)) (nat_lit 0) [] Value.none Value.none Value.none Value.none none Value.none Value.none (nat_lit 0))) (.mk []))
def o486 (P : Params) : Obj := (@Obj.mk (@Value.type "code") none (@Data.fields (.mk [(@Value.str (@Str.ofString "things") (nat_lit 836)), (@Value.str (@Str.ofString "Ranking.things") (nat_lit 837)), (@Value.str (@Str.ofString "/claim/cut.py") (nat_lit 838)), (@Value.int (.ofNat (nat_lit 232)) (nat_lit 0)), (@Value.int (.ofNat (nat_lit 1)) (nat_lit 0)), (@Value.int (.ofNat (nat_lit 0)) (nat_lit 0)), (@Value.int (.ofNat (nat_lit 0)) (nat_lit 0)), (@Value.int (.ofNat (nat_lit 3)) (nat_lit 0)), (@Value.ref (nat_lit 481)), (@Value.bool true), (@Value.int (.ofNat (nat_lit 181)) (nat_lit 0)), (@Value.ref (nat_lit 482)), Value.none, (@Value.ref (nat_lit 483)), (@Value.ref (nat_lit 484)), (@Value.ref (nat_lit 485)), (@Value.int (.ofNat (nat_lit 840)) (nat_lit 0)), (@Value.int (.ofNat (nat_lit 232)) (nat_lit 0)), (@Value.str (@Str.ofString "/claim/cut.py") (nat_lit 841))])) (.mk []))
def o487 (P : Params) : Obj := (@Obj.mk (@Value.type "function") none (@Data.func (@FuncData.mk (@Str.ofString "things") (@Str.ofString "Ranking.things") (defArgs (inClass (topS 55) 4)) (@FuncBody.stmts (defBody (inClass (topS 55) 4))) (defScope (inClass (topS 62) 4)) (nat_lit 3) [] Value.none Value.none Value.none (@Value.str (@Str.ofString "menuhouses.rankings") (nat_lit 765)) none (@Value.ref (nat_lit 486)) Value.none (nat_lit 0))) (.mk []))
def o488 (P : Params) : Obj := (@Obj.mk (@Value.type "property") none (@Data.fields (.mk [(@Value.ref (nat_lit 487)), Value.none, Value.none, Value.none, (@Value.str (@Str.ofString "things") (nat_lit 843)), (@Value.bool false)])) (.mk []))
def o489 (P : Params) : Obj := (@Obj.mk (@Value.type "tuple") none (@Data.seq (.mk []) (nat_lit 0)) (.mk []))
def o490 (P : Params) : Obj := (@Obj.mk Value.none none (@Data.fields (.mk [])) (.mk []))
def o491 (P : Params) : Obj := (@Obj.mk Value.none none (@Data.func (@FuncData.mk (@Str.ofString "best") (@Str.ofString "Ranking.best") (defArgs (inClass (topS 55) 5)) (@FuncBody.stmts (defBody (inClass (topS 55) 5))) (defScope (inClass (topS 55) 5)) (nat_lit 0) [] Value.none Value.none Value.none Value.none none Value.none Value.none (nat_lit 0))) (.mk []))
def o492 (P : Params) : Obj := (@Obj.mk (@Value.type "code") none (@Data.fields (.mk [(@Value.str (@Str.ofString "best") (nat_lit 844)), (@Value.str (@Str.ofString "Ranking.best") (nat_lit 845)), (@Value.str (@Str.ofString "/claim/cut.py") (nat_lit 846)), (@Value.int (.ofNat (nat_lit 236)) (nat_lit 0)), (@Value.int (.ofNat (nat_lit 2)) (nat_lit 0)), (@Value.int (.ofNat (nat_lit 0)) (nat_lit 0)), (@Value.int (.ofNat (nat_lit 0)) (nat_lit 0)), (@Value.int (.ofNat (nat_lit 3)) (nat_lit 0)), (@Value.ref (nat_lit 489)), (@Value.bool true), (@Value.int (.ofNat (nat_lit 181)) (nat_lit 0)), (@Value.ref (nat_lit 490)), Value.none, Value.none, Value.none, (@Value.ref (nat_lit 491)), (@Value.int (.ofNat (nat_lit 847)) (nat_lit 0)), (@Value.int (.ofNat (nat_lit 236)) (nat_lit 0)), (@Value.str (@Str.ofString "/claim/cut.py") (nat_lit 848))])) (.mk []))
def o493 (P : Params) : Obj := (@Obj.mk (@Value.type "function") none (@Data.func (@FuncData.mk (@Str.ofString "best") (@Str.ofString "Ranking.best") (defArgs (inClass (topS 55) 5)) (@FuncBody.stmts (defBody (inClass (topS 55) 5))) (defScope (inClass (topS 55) 5)) (nat_lit 3) [] Value.none Value.none Value.none (@Value.str (@Str.ofString "menuhouses.rankings") (nat_lit 765)) none (@Value.ref (nat_lit 492)) Value.none (nat_lit 0))) (.mk []))
def o494 (P : Params) : Obj := (@Obj.mk (@Value.type "tuple") none (@Data.seq (.mk []) (nat_lit 0)) (.mk []))
def o495 (P : Params) : Obj := (@Obj.mk Value.none none (@Data.fields (.mk [])) (.mk []))
def o496 (P : Params) : Obj := (@Obj.mk (@Value.type "tuple") none (@Data.seq (.mk [(@Value.str (@Str.ofString "self") (nat_lit 853)), (@Value.str (@Str.ofString "thing") (nat_lit 854))]) (nat_lit 0)) (.mk []))
def o497 (P : Params) : Obj := (@Obj.mk (@Value.type "tuple") none (@Data.seq (.mk []) (nat_lit 0)) (.mk []))
def o498 (P : Params) : Obj := (@Obj.mk Value.none none (@Data.func (@FuncData.mk (@Str.ofString "below") (@Str.ofString "Ranking.below") (defArgs (inClass (topS 55) 6)) (@FuncBody.stmts (defBody (inClass (topS 55) 6))) (defScope (inClass (topS 55) 6)) (nat_lit 0) [] Value.none Value.none Value.none Value.none none Value.none Value.none (nat_lit 0))) (.mk []))
def o499 (P : Params) : Obj := (@Obj.mk (@Value.type "code") none (@Data.fields (.mk [(@Value.str (@Str.ofString "below") (nat_lit 850)), (@Value.str (@Str.ofString "Ranking.below") (nat_lit 851)), (@Value.str (@Str.ofString "/claim/cut.py") (nat_lit 852)), (@Value.int (.ofNat (nat_lit 240)) (nat_lit 0)), (@Value.int (.ofNat (nat_lit 2)) (nat_lit 0)), (@Value.int (.ofNat (nat_lit 0)) (nat_lit 0)), (@Value.int (.ofNat (nat_lit 0)) (nat_lit 0)), (@Value.int (.ofNat (nat_lit 3)) (nat_lit 0)), (@Value.ref (nat_lit 494)), (@Value.bool true), (@Value.int (.ofNat (nat_lit 181)) (nat_lit 0)), (@Value.ref (nat_lit 495)), Value.none, (@Value.ref (nat_lit 496)), (@Value.ref (nat_lit 497)), (@Value.ref (nat_lit 498)), (@Value.int (.ofNat (nat_lit 855)) (nat_lit 0)), (@Value.int (.ofNat (nat_lit 240)) (nat_lit 0)), (@Value.str (@Str.ofString "/claim/cut.py") (nat_lit 856))])) (.mk []))
def o500 (P : Params) : Obj := (@Obj.mk (@Value.type "function") none (@Data.func (@FuncData.mk (@Str.ofString "below") (@Str.ofString "Ranking.below") (defArgs (inClass (topS 55) 6)) (@FuncBody.stmts (defBody (inClass (topS 55) 6))) (defScope (inClass (topS 55) 6)) (nat_lit 3) [] Value.none Value.none Value.none (@Value.str (@Str.ofString "menuhouses.rankings") (nat_lit 765)) none (@Value.ref (nat_lit 499)) Value.none (nat_lit 0))) (.mk []))
def o501 (P : Params) : Obj := (@Obj.mk (@Value.type "tuple") none (@Data.seq (.mk []) (nat_lit 0)) (.mk []))
def o502 (P : Params) : Obj := (@Obj.mk Value.none none (@Data.fields (.mk [])) (.mk []))
def o503 (P : Params) : Obj := (@Obj.mk (@Value.type "tuple") none (@Data.seq (.mk [(@Value.str (@Str.ofString "self") (nat_lit 861)), (@Value.str (@Str.ofString "thing") (nat_lit 862))]) (nat_lit 0)) (.mk []))
def o504 (P : Params) : Obj := (@Obj.mk (@Value.type "tuple") none (@Data.seq (.mk []) (nat_lit 0)) (.mk []))
def o505 (P : Params) : Obj := (@Obj.mk Value.none none (@Data.func (@FuncData.mk (@Str.ofString "place") (@Str.ofString "Ranking.place") (defArgs (inClass (topS 55) 7)) (@FuncBody.stmts (defBody (inClass (topS 55) 7))) (defScope (inClass (topS 55) 7)) (nat_lit 0) [] Value.none Value.none Value.none Value.none none Value.none Value.none (nat_lit 0))) (.mk []))
def o506 (P : Params) : Obj := (@Obj.mk (@Value.type "code") none (@Data.fields (.mk [(@Value.str (@Str.ofString "place") (nat_lit 858)), (@Value.str (@Str.ofString "Ranking.place") (nat_lit 859)), (@Value.str (@Str.ofString "/claim/cut.py") (nat_lit 860)), (@Value.int (.ofNat (nat_lit 243)) (nat_lit 0)), (@Value.int (.ofNat (nat_lit 2)) (nat_lit 0)), (@Value.int (.ofNat (nat_lit 0)) (nat_lit 0)), (@Value.int (.ofNat (nat_lit 0)) (nat_lit 0)), (@Value.int (.ofNat (nat_lit 3)) (nat_lit 0)), (@Value.ref (nat_lit 501)), (@Value.bool true), (@Value.int (.ofNat (nat_lit 181)) (nat_lit 0)), (@Value.ref (nat_lit 502)), Value.none, (@Value.ref (nat_lit 503)), (@Value.ref (nat_lit 504)), (@Value.ref (nat_lit 505)), (@Value.int (.ofNat (nat_lit 863)) (nat_lit 0)), (@Value.int (.ofNat (nat_lit 243)) (nat_lit 0)), (@Value.str (@Str.ofString "/claim/cut.py") (nat_lit 864))])) (.mk []))
def o507 (P : Params) : Obj := (@Obj.mk (@Value.type "function") none (@Data.func (@FuncData.mk (@Str.ofString "place") (@Str.ofString "Ranking.place") (defArgs (inClass (topS 55) 7)) (@FuncBody.stmts (defBody (inClass (topS 55) 7))) (defScope (inClass (topS 55) 7)) (nat_lit 3) [] Value.none Value.none Value.none (@Value.str (@Str.ofString "menuhouses.rankings") (nat_lit 765)) none (@Value.ref (nat_lit 506)) Value.none (nat_lit 0))) (.mk []))
def o508 (P : Params) : Obj := (@Obj.mk (@Value.type "tuple") none (@Data.seq (.mk []) (nat_lit 0)) (.mk []))
def o509 (P : Params) : Obj := (@Obj.mk Value.none none (@Data.fields (.mk [])) (.mk []))
def o510 (P : Params) : Obj := (@Obj.mk Value.none none (@Data.func (@FuncData.mk (@Str.ofString "without") (@Str.ofString "Ranking.without") (defArgs (inClass (topS 55) 8)) (@FuncBody.stmts (defBody (inClass (topS 55) 8))) (defScope (inClass (topS 55) 8)) (nat_lit 0) [] Value.none Value.none Value.none Value.none none Value.none Value.none (nat_lit 0))) (.mk []))
def o511 (P : Params) : Obj := (@Obj.mk (@Value.type "code") none (@Data.fields (.mk [(@Value.str (@Str.ofString "without") (nat_lit 866)), (@Value.str (@Str.ofString "Ranking.without") (nat_lit 867)), (@Value.str (@Str.ofString "/claim/cut.py") (nat_lit 868)), (@Value.int (.ofNat (nat_lit 247)) (nat_lit 0)), (@Value.int (.ofNat (nat_lit 1)) (nat_lit 0)), (@Value.int (.ofNat (nat_lit 0)) (nat_lit 0)), (@Value.int (.ofNat (nat_lit 0)) (nat_lit 0)), (@Value.int (.ofNat (nat_lit 7)) (nat_lit 0)), (@Value.ref (nat_lit 508)), (@Value.bool true), (@Value.int (.ofNat (nat_lit 181)) (nat_lit 0)), (@Value.ref (nat_lit 509)), Value.none, Value.none, Value.none, (@Value.ref (nat_lit 510)), (@Value.int (.ofNat (nat_lit 869)) (nat_lit 0)), (@Value.int (.ofNat (nat_lit 247)) (nat_lit 0)), (@Value.str (@Str.ofString "/claim/cut.py") (nat_lit 870))])) (.mk []))
def o512 (P : Params) : Obj := (@Obj.mk (@Value.type "function") none (@Data.func (@FuncData.mk (@Str.ofString "without") (@Str.ofString "Ranking.without") (defArgs (inClass (topS 55) 8)) (@FuncBody.stmts (defBody (inClass (topS 55) 8))) (defScope (inClass (topS 55) 8)) (nat_lit 3) [] Value.none Value.none Value.none (@Value.str (@Str.ofString "menuhouses.rankings") (nat_lit 765)) none (@Value.ref (nat_lit 511)) Value.none (nat_lit 0))) (.mk []))
def o513 (P : Params) : Obj := (@Obj.mk (@Value.type "tuple") none (@Data.seq (.mk []) (nat_lit 0)) (.mk []))
def o514 (P : Params) : Obj := (@Obj.mk Value.none none (@Data.fields (.mk [])) (.mk []))
def o515 (P : Params) : Obj := (@Obj.mk (@Value.type "tuple") none (@Data.seq (.mk [(@Value.str (@Str.ofString "self") (nat_lit 875)), (@Value.str (@Str.ofString "at") (nat_lit 876))]) (nat_lit 0)) (.mk []))
def o516 (P : Params) : Obj := (@Obj.mk (@Value.type "tuple") none (@Data.seq (.mk []) (nat_lit 0)) (.mk []))
def o517 (P : Params) : Obj := (@Obj.mk Value.none none (@Data.func (@FuncData.mk (@Str.ofString "__getitem__") (@Str.ofString "Ranking.__getitem__") (defArgs (inClass (topS 55) 9)) (@FuncBody.stmts (defBody (inClass (topS 55) 9))) (defScope (inClass (topS 55) 9)) (nat_lit 0) [] Value.none Value.none Value.none Value.none none Value.none Value.none (nat_lit 0))) (.mk []))
def o518 (P : Params) : Obj := (@Obj.mk (@Value.type "code") none (@Data.fields (.mk [(@Value.str (@Str.ofString "__getitem__") (nat_lit 872)), (@Value.str (@Str.ofString "Ranking.__getitem__") (nat_lit 873)), (@Value.str (@Str.ofString "/claim/cut.py") (nat_lit 874)), (@Value.int (.ofNat (nat_lit 252)) (nat_lit 0)), (@Value.int (.ofNat (nat_lit 2)) (nat_lit 0)), (@Value.int (.ofNat (nat_lit 0)) (nat_lit 0)), (@Value.int (.ofNat (nat_lit 0)) (nat_lit 0)), (@Value.int (.ofNat (nat_lit 3)) (nat_lit 0)), (@Value.ref (nat_lit 513)), (@Value.bool true), (@Value.int (.ofNat (nat_lit 181)) (nat_lit 0)), (@Value.ref (nat_lit 514)), Value.none, (@Value.ref (nat_lit 515)), (@Value.ref (nat_lit 516)), (@Value.ref (nat_lit 517)), (@Value.int (.ofNat (nat_lit 877)) (nat_lit 0)), (@Value.int (.ofNat (nat_lit 252)) (nat_lit 0)), (@Value.str (@Str.ofString "/claim/cut.py") (nat_lit 878))])) (.mk []))
def o519 (P : Params) : Obj := (@Obj.mk (@Value.type "function") none (@Data.func (@FuncData.mk (@Str.ofString "__getitem__") (@Str.ofString "Ranking.__getitem__") (defArgs (inClass (topS 55) 9)) (@FuncBody.stmts (defBody (inClass (topS 55) 9))) (defScope (inClass (topS 55) 9)) (nat_lit 3) [] Value.none Value.none Value.none (@Value.str (@Str.ofString "menuhouses.rankings") (nat_lit 765)) none (@Value.ref (nat_lit 518)) Value.none (nat_lit 0))) (.mk []))
def o520 (P : Params) : Obj := (@Obj.mk (@Value.type "tuple") none (@Data.seq (.mk []) (nat_lit 0)) (.mk []))
def o521 (P : Params) : Obj := (@Obj.mk Value.none none (@Data.fields (.mk [])) (.mk []))
def o522 (P : Params) : Obj := (@Obj.mk (@Value.type "tuple") none (@Data.seq (.mk [(@Value.str (@Str.ofString "self") (nat_lit 883))]) (nat_lit 0)) (.mk []))
def o523 (P : Params) : Obj := (@Obj.mk (@Value.type "tuple") none (@Data.seq (.mk []) (nat_lit 0)) (.mk []))
def o524 (P : Params) : Obj := (@Obj.mk Value.none none (@Data.func (@FuncData.mk (@Str.ofString "__iter__") (@Str.ofString "Ranking.__iter__") (defArgs (inClass (topS 55) 10)) (@FuncBody.stmts (defBody (inClass (topS 55) 10))) (defScope (inClass (topS 55) 10)) (nat_lit 0) [] Value.none Value.none Value.none Value.none none Value.none Value.none (nat_lit 0))) (.mk []))
def o525 (P : Params) : Obj := (@Obj.mk (@Value.type "code") none (@Data.fields (.mk [(@Value.str (@Str.ofString "__iter__") (nat_lit 880)), (@Value.str (@Str.ofString "Ranking.__iter__") (nat_lit 881)), (@Value.str (@Str.ofString "/claim/cut.py") (nat_lit 882)), (@Value.int (.ofNat (nat_lit 257)) (nat_lit 0)), (@Value.int (.ofNat (nat_lit 1)) (nat_lit 0)), (@Value.int (.ofNat (nat_lit 0)) (nat_lit 0)), (@Value.int (.ofNat (nat_lit 0)) (nat_lit 0)), (@Value.int (.ofNat (nat_lit 3)) (nat_lit 0)), (@Value.ref (nat_lit 520)), (@Value.bool true), (@Value.int (.ofNat (nat_lit 181)) (nat_lit 0)), (@Value.ref (nat_lit 521)), Value.none, (@Value.ref (nat_lit 522)), (@Value.ref (nat_lit 523)), (@Value.ref (nat_lit 524)), (@Value.int (.ofNat (nat_lit 884)) (nat_lit 0)), (@Value.int (.ofNat (nat_lit 257)) (nat_lit 0)), (@Value.str (@Str.ofString "/claim/cut.py") (nat_lit 885))])) (.mk []))
def o526 (P : Params) : Obj := (@Obj.mk (@Value.type "function") none (@Data.func (@FuncData.mk (@Str.ofString "__iter__") (@Str.ofString "Ranking.__iter__") (defArgs (inClass (topS 55) 10)) (@FuncBody.stmts (defBody (inClass (topS 55) 10))) (defScope (inClass (topS 55) 10)) (nat_lit 3) [] Value.none Value.none Value.none (@Value.str (@Str.ofString "menuhouses.rankings") (nat_lit 765)) none (@Value.ref (nat_lit 525)) Value.none (nat_lit 0))) (.mk []))
def o527 (P : Params) : Obj := (@Obj.mk (@Value.type "tuple") none (@Data.seq (.mk []) (nat_lit 0)) (.mk []))
def o528 (P : Params) : Obj := (@Obj.mk Value.none none (@Data.fields (.mk [])) (.mk []))
def o529 (P : Params) : Obj := (@Obj.mk (@Value.type "tuple") none (@Data.seq (.mk [(@Value.str (@Str.ofString "self") (nat_lit 890)), (@Value.str (@Str.ofString "x") (nat_lit 891))]) (nat_lit 0)) (.mk []))
def o530 (P : Params) : Obj := (@Obj.mk (@Value.type "tuple") none (@Data.seq (.mk []) (nat_lit 0)) (.mk []))
def o531 (P : Params) : Obj := (@Obj.mk Value.none none (@Data.func (@FuncData.mk (@Str.ofString "__contains__") (@Str.ofString "Ranking.__contains__") (defArgs (inClass (topS 55) 11)) (@FuncBody.stmts (defBody (inClass (topS 55) 11))) (defScope (inClass (topS 55) 11)) (nat_lit 0) [] Value.none Value.none Value.none Value.none none Value.none Value.none (nat_lit 0))) (.mk []))
def o532 (P : Params) : Obj := (@Obj.mk (@Value.type "code") none (@Data.fields (.mk [(@Value.str (@Str.ofString "__contains__") (nat_lit 887)), (@Value.str (@Str.ofString "Ranking.__contains__") (nat_lit 888)), (@Value.str (@Str.ofString "/claim/cut.py") (nat_lit 889)), (@Value.int (.ofNat (nat_lit 260)) (nat_lit 0)), (@Value.int (.ofNat (nat_lit 2)) (nat_lit 0)), (@Value.int (.ofNat (nat_lit 0)) (nat_lit 0)), (@Value.int (.ofNat (nat_lit 0)) (nat_lit 0)), (@Value.int (.ofNat (nat_lit 3)) (nat_lit 0)), (@Value.ref (nat_lit 527)), (@Value.bool true), (@Value.int (.ofNat (nat_lit 181)) (nat_lit 0)), (@Value.ref (nat_lit 528)), Value.none, (@Value.ref (nat_lit 529)), (@Value.ref (nat_lit 530)), (@Value.ref (nat_lit 531)), (@Value.int (.ofNat (nat_lit 892)) (nat_lit 0)), (@Value.int (.ofNat (nat_lit 260)) (nat_lit 0)), (@Value.str (@Str.ofString "/claim/cut.py") (nat_lit 893))])) (.mk []))
def o533 (P : Params) : Obj := (@Obj.mk (@Value.type "function") none (@Data.func (@FuncData.mk (@Str.ofString "__contains__") (@Str.ofString "Ranking.__contains__") (defArgs (inClass (topS 55) 11)) (@FuncBody.stmts (defBody (inClass (topS 55) 11))) (defScope (inClass (topS 55) 11)) (nat_lit 3) [] Value.none Value.none Value.none (@Value.str (@Str.ofString "menuhouses.rankings") (nat_lit 765)) none (@Value.ref (nat_lit 532)) Value.none (nat_lit 0))) (.mk []))
def o534 (P : Params) : Obj := (@Obj.mk (@Value.type "tuple") none (@Data.seq (.mk []) (nat_lit 0)) (.mk []))
def o535 (P : Params) : Obj := (@Obj.mk Value.none none (@Data.fields (.mk [])) (.mk []))
def o536 (P : Params) : Obj := (@Obj.mk (@Value.type "tuple") none (@Data.seq (.mk [(@Value.str (@Str.ofString "self") (nat_lit 898))]) (nat_lit 0)) (.mk []))
def o537 (P : Params) : Obj := (@Obj.mk (@Value.type "tuple") none (@Data.seq (.mk []) (nat_lit 0)) (.mk []))
def o538 (P : Params) : Obj := (@Obj.mk Value.none none (@Data.func (@FuncData.mk (@Str.ofString "__neg__") (@Str.ofString "Ranking.__neg__") (defArgs (inClass (topS 55) 12)) (@FuncBody.stmts (defBody (inClass (topS 55) 12))) (defScope (inClass (topS 55) 12)) (nat_lit 0) [] Value.none Value.none Value.none Value.none none Value.none Value.none (nat_lit 0))) (.mk []))
def o539 (P : Params) : Obj := (@Obj.mk (@Value.type "code") none (@Data.fields (.mk [(@Value.str (@Str.ofString "__neg__") (nat_lit 895)), (@Value.str (@Str.ofString "Ranking.__neg__") (nat_lit 896)), (@Value.str (@Str.ofString "/claim/cut.py") (nat_lit 897)), (@Value.int (.ofNat (nat_lit 263)) (nat_lit 0)), (@Value.int (.ofNat (nat_lit 1)) (nat_lit 0)), (@Value.int (.ofNat (nat_lit 0)) (nat_lit 0)), (@Value.int (.ofNat (nat_lit 0)) (nat_lit 0)), (@Value.int (.ofNat (nat_lit 3)) (nat_lit 0)), (@Value.ref (nat_lit 534)), (@Value.bool true), (@Value.int (.ofNat (nat_lit 181)) (nat_lit 0)), (@Value.ref (nat_lit 535)), Value.none, (@Value.ref (nat_lit 536)), (@Value.ref (nat_lit 537)), (@Value.ref (nat_lit 538)), (@Value.int (.ofNat (nat_lit 899)) (nat_lit 0)), (@Value.int (.ofNat (nat_lit 263)) (nat_lit 0)), (@Value.str (@Str.ofString "/claim/cut.py") (nat_lit 900))])) (.mk []))
def o540 (P : Params) : Obj := (@Obj.mk (@Value.type "function") none (@Data.func (@FuncData.mk (@Str.ofString "__neg__") (@Str.ofString "Ranking.__neg__") (defArgs (inClass (topS 55) 12)) (@FuncBody.stmts (defBody (inClass (topS 55) 12))) (defScope (inClass (topS 55) 12)) (nat_lit 3) [] Value.none Value.none Value.none (@Value.str (@Str.ofString "menuhouses.rankings") (nat_lit 765)) none (@Value.ref (nat_lit 539)) Value.none (nat_lit 0))) (.mk []))
def o541 (P : Params) : Obj := (@Obj.mk (@Value.type "tuple") none (@Data.seq (.mk []) (nat_lit 0)) (.mk []))
def o542 (P : Params) : Obj := (@Obj.mk Value.none none (@Data.fields (.mk [])) (.mk []))
def o543 (P : Params) : Obj := (@Obj.mk (@Value.type "tuple") none (@Data.seq (.mk [(@Value.str (@Str.ofString "self") (nat_lit 905))]) (nat_lit 0)) (.mk []))
def o544 (P : Params) : Obj := (@Obj.mk (@Value.type "tuple") none (@Data.seq (.mk []) (nat_lit 0)) (.mk []))
def o545 (P : Params) : Obj := (@Obj.mk Value.none none (@Data.func (@FuncData.mk (@Str.ofString "__len__") (@Str.ofString "Ranking.__len__") (defArgs (inClass (topS 55) 13)) (@FuncBody.stmts (defBody (inClass (topS 55) 13))) (defScope (inClass (topS 62) 14)) (nat_lit 0) [] Value.none Value.none Value.none Value.none none Value.none Value.none (nat_lit 0))) (.mk []))
def o546 (P : Params) : Obj := (@Obj.mk (@Value.type "code") none (@Data.fields (.mk [(@Value.str (@Str.ofString "__len__") (nat_lit 902)), (@Value.str (@Str.ofString "Ranking.__len__") (nat_lit 903)), (@Value.str (@Str.ofString "/claim/cut.py") (nat_lit 904)), (@Value.int (.ofNat (nat_lit 266)) (nat_lit 0)), (@Value.int (.ofNat (nat_lit 1)) (nat_lit 0)), (@Value.int (.ofNat (nat_lit 0)) (nat_lit 0)), (@Value.int (.ofNat (nat_lit 0)) (nat_lit 0)), (@Value.int (.ofNat (nat_lit 3)) (nat_lit 0)), (@Value.ref (nat_lit 541)), (@Value.bool true), (@Value.int (.ofNat (nat_lit 181)) (nat_lit 0)), (@Value.ref (nat_lit 542)), Value.none, (@Value.ref (nat_lit 543)), (@Value.ref (nat_lit 544)), (@Value.ref (nat_lit 545)), (@Value.int (.ofNat (nat_lit 906)) (nat_lit 0)), (@Value.int (.ofNat (nat_lit 266)) (nat_lit 0)), (@Value.str (@Str.ofString "/claim/cut.py") (nat_lit 907))])) (.mk []))
def o547 (P : Params) : Obj := (@Obj.mk (@Value.type "function") none (@Data.func (@FuncData.mk (@Str.ofString "__len__") (@Str.ofString "Ranking.__len__") (defArgs (inClass (topS 55) 13)) (@FuncBody.stmts (defBody (inClass (topS 55) 13))) (defScope (inClass (topS 62) 14)) (nat_lit 3) [] Value.none Value.none Value.none (@Value.str (@Str.ofString "menuhouses.rankings") (nat_lit 765)) none (@Value.ref (nat_lit 546)) Value.none (nat_lit 0))) (.mk []))
def o548 (P : Params) : Obj := (@Obj.mk (@Value.type "tuple") none (@Data.seq (.mk []) (nat_lit 0)) (.mk []))
def o549 (P : Params) : Obj := (@Obj.mk Value.none none (@Data.fields (.mk [])) (.mk []))
def o550 (P : Params) : Obj := (@Obj.mk (@Value.type "tuple") none (@Data.seq (.mk [(@Value.str (@Str.ofString "self") (nat_lit 912))]) (nat_lit 0)) (.mk []))
def o551 (P : Params) : Obj := (@Obj.mk (@Value.type "tuple") none (@Data.seq (.mk []) (nat_lit 0)) (.mk []))
def o552 (P : Params) : Obj := (@Obj.mk Value.none none (@Data.func (@FuncData.mk (@Str.ofString "__str__") (@Str.ofString "Ranking.__str__") (defArgs (inClass (topS 55) 14)) (@FuncBody.stmts (defBody (inClass (topS 55) 14))) (defScope (inClass (topS 62) 4)) (nat_lit 0) [] Value.none Value.none Value.none Value.none none Value.none Value.none (nat_lit 0))) (.mk []))
def o553 (P : Params) : Obj := (@Obj.mk (@Value.type "code") none (@Data.fields (.mk [(@Value.str (@Str.ofString "__str__") (nat_lit 909)), (@Value.str (@Str.ofString "Ranking.__str__") (nat_lit 910)), (@Value.str (@Str.ofString "/claim/cut.py") (nat_lit 911)), (@Value.int (.ofNat (nat_lit 269)) (nat_lit 0)), (@Value.int (.ofNat (nat_lit 1)) (nat_lit 0)), (@Value.int (.ofNat (nat_lit 0)) (nat_lit 0)), (@Value.int (.ofNat (nat_lit 0)) (nat_lit 0)), (@Value.int (.ofNat (nat_lit 3)) (nat_lit 0)), (@Value.ref (nat_lit 548)), (@Value.bool true), (@Value.int (.ofNat (nat_lit 181)) (nat_lit 0)), (@Value.ref (nat_lit 549)), Value.none, (@Value.ref (nat_lit 550)), (@Value.ref (nat_lit 551)), (@Value.ref (nat_lit 552)), (@Value.int (.ofNat (nat_lit 913)) (nat_lit 0)), (@Value.int (.ofNat (nat_lit 269)) (nat_lit 0)), (@Value.str (@Str.ofString "/claim/cut.py") (nat_lit 914))])) (.mk []))
def o554 (P : Params) : Obj := (@Obj.mk (@Value.type "function") none (@Data.func (@FuncData.mk (@Str.ofString "__str__") (@Str.ofString "Ranking.__str__") (defArgs (inClass (topS 55) 14)) (@FuncBody.stmts (defBody (inClass (topS 55) 14))) (defScope (inClass (topS 62) 4)) (nat_lit 3) [] Value.none Value.none Value.none (@Value.str (@Str.ofString "menuhouses.rankings") (nat_lit 765)) none (@Value.ref (nat_lit 553)) Value.none (nat_lit 0))) (.mk []))
def o555 (P : Params) : Obj := (@Obj.mk (@Value.type "tuple") none (@Data.seq (.mk []) (nat_lit 0)) (.mk []))
def o556 (P : Params) : Obj := (@Obj.mk Value.none none (@Data.fields (.mk [])) (.mk []))
def o557 (P : Params) : Obj := (@Obj.mk (@Value.type "tuple") none (@Data.seq (.mk [(@Value.str (@Str.ofString "self") (nat_lit 919))]) (nat_lit 0)) (.mk []))
def o558 (P : Params) : Obj := (@Obj.mk (@Value.type "tuple") none (@Data.seq (.mk []) (nat_lit 0)) (.mk []))
def o559 (P : Params) : Obj := (@Obj.mk Value.none none (@Data.func (@FuncData.mk (@Str.ofString "__repr__") (@Str.ofString "Ranking.__repr__") (defArgs (inClass (topS 55) 15)) (@FuncBody.stmts (defBody (inClass (topS 55) 15))) (defScope (inClass (topS 62) 4)) (nat_lit 0) [] Value.none Value.none Value.none Value.none none Value.none Value.none (nat_lit 0))) (.mk []))
def o560 (P : Params) : Obj := (@Obj.mk (@Value.type "code") none (@Data.fields (.mk [(@Value.str (@Str.ofString "__repr__") (nat_lit 916)), (@Value.str (@Str.ofString "Ranking.__repr__") (nat_lit 917)), (@Value.str (@Str.ofString "/claim/cut.py") (nat_lit 918)), (@Value.int (.ofNat (nat_lit 272)) (nat_lit 0)), (@Value.int (.ofNat (nat_lit 1)) (nat_lit 0)), (@Value.int (.ofNat (nat_lit 0)) (nat_lit 0)), (@Value.int (.ofNat (nat_lit 0)) (nat_lit 0)), (@Value.int (.ofNat (nat_lit 3)) (nat_lit 0)), (@Value.ref (nat_lit 555)), (@Value.bool true), (@Value.int (.ofNat (nat_lit 181)) (nat_lit 0)), (@Value.ref (nat_lit 556)), Value.none, (@Value.ref (nat_lit 557)), (@Value.ref (nat_lit 558)), (@Value.ref (nat_lit 559)), (@Value.int (.ofNat (nat_lit 920)) (nat_lit 0)), (@Value.int (.ofNat (nat_lit 272)) (nat_lit 0)), (@Value.str (@Str.ofString "/claim/cut.py") (nat_lit 921))])) (.mk []))
def o561 (P : Params) : Obj := (@Obj.mk (@Value.type "function") none (@Data.func (@FuncData.mk (@Str.ofString "__repr__") (@Str.ofString "Ranking.__repr__") (defArgs (inClass (topS 55) 15)) (@FuncBody.stmts (defBody (inClass (topS 55) 15))) (defScope (inClass (topS 62) 4)) (nat_lit 3) [] Value.none Value.none Value.none (@Value.str (@Str.ofString "menuhouses.rankings") (nat_lit 765)) none (@Value.ref (nat_lit 560)) Value.none (nat_lit 0))) (.mk []))
def o562 (P : Params) : Obj := (@Obj.mk (@Value.type "tuple") none (@Data.seq (.mk []) (nat_lit 0)) (.mk []))
def o563 (P : Params) : Obj := (@Obj.mk Value.none none (@Data.fields (.mk [])) (.mk []))
def o564 (P : Params) : Obj := (@Obj.mk (@Value.type "tuple") none (@Data.seq (.mk [(@Value.str (@Str.ofString "self") (nat_lit 926)), (@Value.str (@Str.ofString "other") (nat_lit 927))]) (nat_lit 0)) (.mk []))
def o565 (P : Params) : Obj := (@Obj.mk (@Value.type "tuple") none (@Data.seq (.mk []) (nat_lit 0)) (.mk []))
def o566 (P : Params) : Obj := (@Obj.mk Value.none none (@Data.func (@FuncData.mk (@Str.ofString "__eq__") (@Str.ofString "Ranking.__eq__") (defArgs (inClass (topS 55) 16)) (@FuncBody.stmts (defBody (inClass (topS 55) 16))) (defScope (inClass (topS 55) 16)) (nat_lit 0) [] Value.none Value.none Value.none Value.none none Value.none Value.none (nat_lit 0))) (.mk []))
def o567 (P : Params) : Obj := (@Obj.mk (@Value.type "code") none (@Data.fields (.mk [(@Value.str (@Str.ofString "__eq__") (nat_lit 923)), (@Value.str (@Str.ofString "Ranking.__eq__") (nat_lit 924)), (@Value.str (@Str.ofString "/claim/cut.py") (nat_lit 925)), (@Value.int (.ofNat (nat_lit 275)) (nat_lit 0)), (@Value.int (.ofNat (nat_lit 2)) (nat_lit 0)), (@Value.int (.ofNat (nat_lit 0)) (nat_lit 0)), (@Value.int (.ofNat (nat_lit 0)) (nat_lit 0)), (@Value.int (.ofNat (nat_lit 3)) (nat_lit 0)), (@Value.ref (nat_lit 562)), (@Value.bool true), (@Value.int (.ofNat (nat_lit 181)) (nat_lit 0)), (@Value.ref (nat_lit 563)), Value.none, (@Value.ref (nat_lit 564)), (@Value.ref (nat_lit 565)), (@Value.ref (nat_lit 566)), (@Value.int (.ofNat (nat_lit 928)) (nat_lit 0)), (@Value.int (.ofNat (nat_lit 275)) (nat_lit 0)), (@Value.str (@Str.ofString "/claim/cut.py") (nat_lit 929))])) (.mk []))
def o568 (P : Params) : Obj := (@Obj.mk (@Value.type "function") none (@Data.func (@FuncData.mk (@Str.ofString "__eq__") (@Str.ofString "Ranking.__eq__") (defArgs (inClass (topS 55) 16)) (@FuncBody.stmts (defBody (inClass (topS 55) 16))) (defScope (inClass (topS 55) 16)) (nat_lit 3) [] Value.none Value.none Value.none (@Value.str (@Str.ofString "menuhouses.rankings") (nat_lit 765)) none (@Value.ref (nat_lit 567)) Value.none (nat_lit 0))) (.mk []))
def o569 (P : Params) : Obj := (@Obj.mk (@Value.type "tuple") none (@Data.seq (.mk [(@Value.str (@Str.ofString "_row") (nat_lit 931)), (@Value.str (@Str.ofString "_things") (nat_lit 932))]) (nat_lit 0)) (.mk []))
def o570 (P : Params) : Obj := (@Obj.mk (@Value.type "dict") none (@Data.dict (.mk [(@DictEntry.mk (@PyData.keyHash P (@Str.ofString "__module__")) (@Value.str (@Str.ofString "__module__") (nat_lit 774)) (@Value.str (@Str.ofString "menuhouses.rankings") (nat_lit 765))), (@DictEntry.mk (@PyData.keyHash P (@Str.ofString "__firstlineno__")) (@Value.str (@Str.ofString "__firstlineno__") (nat_lit 778)) (@Value.int (.ofNat (nat_lit 208)) (nat_lit 777))), (@DictEntry.mk (@PyData.keyHash P (@Str.ofString "__init__")) (@Value.str (@Str.ofString "__init__") (nat_lit 786)) (@Value.ref (nat_lit 452))), (@DictEntry.mk (@PyData.keyHash P (@Str.ofString "of")) (@Value.str (@Str.ofString "of") (nat_lit 806)) (@Value.ref (nat_lit 461))), (@DictEntry.mk (@PyData.keyHash P (@Str.ofString "read")) (@Value.str (@Str.ofString "read") (nat_lit 827)) (@Value.ref (nat_lit 471))), (@DictEntry.mk (@PyData.keyHash P (@Str.ofString "row")) (@Value.str (@Str.ofString "row") (nat_lit 835)) (@Value.ref (nat_lit 480))), (@DictEntry.mk (@PyData.keyHash P (@Str.ofString "things")) (@Value.str (@Str.ofString "things") (nat_lit 843)) (@Value.ref (nat_lit 488))), (@DictEntry.mk (@PyData.keyHash P (@Str.ofString "best")) (@Value.str (@Str.ofString "best") (nat_lit 849)) (@Value.ref (nat_lit 493))), (@DictEntry.mk (@PyData.keyHash P (@Str.ofString "below")) (@Value.str (@Str.ofString "below") (nat_lit 857)) (@Value.ref (nat_lit 500))), (@DictEntry.mk (@PyData.keyHash P (@Str.ofString "place")) (@Value.str (@Str.ofString "place") (nat_lit 865)) (@Value.ref (nat_lit 507))), (@DictEntry.mk (@PyData.keyHash P (@Str.ofString "without")) (@Value.str (@Str.ofString "without") (nat_lit 871)) (@Value.ref (nat_lit 512))), (@DictEntry.mk (@PyData.keyHash P (@Str.ofString "__getitem__")) (@Value.str (@Str.ofString "__getitem__") (nat_lit 879)) (@Value.ref (nat_lit 519))), (@DictEntry.mk (@PyData.keyHash P (@Str.ofString "__iter__")) (@Value.str (@Str.ofString "__iter__") (nat_lit 886)) (@Value.ref (nat_lit 526))), (@DictEntry.mk (@PyData.keyHash P (@Str.ofString "__contains__")) (@Value.str (@Str.ofString "__contains__") (nat_lit 894)) (@Value.ref (nat_lit 533))), (@DictEntry.mk (@PyData.keyHash P (@Str.ofString "__neg__")) (@Value.str (@Str.ofString "__neg__") (nat_lit 901)) (@Value.ref (nat_lit 540))), (@DictEntry.mk (@PyData.keyHash P (@Str.ofString "__len__")) (@Value.str (@Str.ofString "__len__") (nat_lit 908)) (@Value.ref (nat_lit 547))), (@DictEntry.mk (@PyData.keyHash P (@Str.ofString "__str__")) (@Value.str (@Str.ofString "__str__") (nat_lit 915)) (@Value.ref (nat_lit 554))), (@DictEntry.mk (@PyData.keyHash P (@Str.ofString "__repr__")) (@Value.str (@Str.ofString "__repr__") (nat_lit 922)) (@Value.ref (nat_lit 561))), (@DictEntry.mk (@PyData.keyHash P (@Str.ofString "__eq__")) (@Value.str (@Str.ofString "__eq__") (nat_lit 930)) (@Value.ref (nat_lit 568))), (@DictEntry.mk (@PyData.keyHash P (@Str.ofString "__static_attributes__")) (@Value.str (@Str.ofString "__static_attributes__") (nat_lit 933)) (@Value.ref (nat_lit 569))), (@DictEntry.mk (@PyData.keyHash P (@Str.ofString "__dict__")) (@Value.str (@Str.ofString "__dict__") (nat_lit 935)) (@Value.ref (nat_lit 572))), (@DictEntry.mk (@PyData.keyHash P (@Str.ofString "__weakref__")) (@Value.str (@Str.ofString "__weakref__") (nat_lit 937)) (@Value.ref (nat_lit 573))), (@DictEntry.mk (@PyData.keyHash P (@Str.ofString "__doc__")) (@Value.str (@Str.ofString "__doc__") (nat_lit 938)) Value.none), (@DictEntry.mk (@PyData.keyHash P (@Str.ofString "__hash__")) (@Value.str (@Str.ofString "__hash__") (nat_lit 939)) Value.none)]) (nat_lit 5)) (.mk []))
def o571 (P : Params) : Obj := (@Obj.mk (@Value.type "type") none (@Data.cls (@ClassData.mk (@Str.ofString "Ranking") [(@Value.type "object")] [(@Value.ref (nat_lit 571)), (@Value.type "object")] (nat_lit 570) (@Str.ofString "Ranking") true [] [] false none false)) (.mk [none, none, (some (@Value.str (@Str.ofString "Ranking") (nat_lit 767))), (some (@Value.str (@Str.ofString "Ranking") (nat_lit 775))), (some (@Value.builtin "object.__new__")), (some (@Value.bool true))]))
def o572 (P : Params) : Obj := (@Obj.mk (@Value.type "getset_descriptor") none (@Data.fields (.mk [(@Value.str (@Str.ofString "__dict__") (nat_lit 934)), (@Value.ref (nat_lit 571)), (@Value.builtin "function.__dict__"), (@Value.builtin "function.__dict__#set")])) (.mk []))
def o573 (P : Params) : Obj := (@Obj.mk (@Value.type "getset_descriptor") none (@Data.fields (.mk [(@Value.str (@Str.ofString "__weakref__") (nat_lit 936)), (@Value.ref (nat_lit 571)), (@Value.builtin "ExceptionGroup.__weakref__"), Value.none])) (.mk []))
def o574 (P : Params) : Obj := (@Obj.mk (@Value.type "super") none (@Data.fields (.mk [(@Value.ref (nat_lit 571)), (@Value.ref (nat_lit 571)), (@Value.ref (nat_lit 571))])) (.mk []))
def o575 (P : Params) : Obj := (@Obj.mk (@Value.type "builtin_function_or_method") none (@Data.fields (.mk [(@Value.builtin "object.__init_subclass__"), (@Value.ref (nat_lit 571))])) (.mk []))
def o576 (P : Params) : Obj := (@Obj.mk (@Value.type "tuple") none (@Data.seq (.mk []) (nat_lit 0)) (.mk []))
def o577 (P : Params) : Obj := (@Obj.mk Value.none none (@Data.fields (.mk [])) (.mk []))
def o578 (P : Params) : Obj := (@Obj.mk (@Value.type "tuple") none (@Data.seq (.mk [(@Value.str (@Str.ofString "house") (nat_lit 947))]) (nat_lit 0)) (.mk []))
def o579 (P : Params) : Obj := (@Obj.mk (@Value.type "tuple") none (@Data.seq (.mk []) (nat_lit 0)) (.mk []))
def o580 (P : Params) : Obj := (@Obj.mk Value.none none (@Data.func (@FuncData.mk (@Str.ofString "check_house") (@Str.ofString "check_house") (defArgs (topS 57)) (@FuncBody.stmts (defBody (topS 57))) (defScope (topS 57)) (nat_lit 0) [] Value.none Value.none Value.none Value.none none Value.none Value.none (nat_lit 0))) (.mk []))
def o581 (P : Params) : Obj := (@Obj.mk (@Value.type "code") none (@Data.fields (.mk [(@Value.str (@Str.ofString "check_house") (nat_lit 944)), (@Value.str (@Str.ofString "check_house") (nat_lit 945)), (@Value.str (@Str.ofString "/claim/cut.py") (nat_lit 946)), (@Value.int (.ofNat (nat_lit 278)) (nat_lit 0)), (@Value.int (.ofNat (nat_lit 1)) (nat_lit 0)), (@Value.int (.ofNat (nat_lit 0)) (nat_lit 0)), (@Value.int (.ofNat (nat_lit 0)) (nat_lit 0)), (@Value.int (.ofNat (nat_lit 3)) (nat_lit 0)), (@Value.ref (nat_lit 576)), (@Value.bool true), (@Value.int (.ofNat (nat_lit 181)) (nat_lit 0)), (@Value.ref (nat_lit 577)), Value.none, (@Value.ref (nat_lit 578)), (@Value.ref (nat_lit 579)), (@Value.ref (nat_lit 580)), (@Value.int (.ofNat (nat_lit 948)) (nat_lit 0)), (@Value.int (.ofNat (nat_lit 278)) (nat_lit 0)), (@Value.str (@Str.ofString "/claim/cut.py") (nat_lit 949))])) (.mk []))
def o582 (P : Params) : Obj := (@Obj.mk (@Value.type "function") none (@Data.func (@FuncData.mk (@Str.ofString "check_house") (@Str.ofString "check_house") (defArgs (topS 57)) (@FuncBody.stmts (defBody (topS 57))) (defScope (topS 57)) (nat_lit 3) [] Value.none Value.none Value.none (@Value.str (@Str.ofString "menuhouses.houses") (nat_lit 942)) none (@Value.ref (nat_lit 581)) Value.none (nat_lit 0))) (.mk []))
def o583 (P : Params) : Obj := (@Obj.mk (@Value.type "tuple") none (@Data.seq (.mk []) (nat_lit 0)) (.mk []))
def o584 (P : Params) : Obj := (@Obj.mk Value.none none (@Data.fields (.mk [])) (.mk []))
def o585 (P : Params) : Obj := (@Obj.mk (@Value.type "tuple") none (@Data.seq (.mk [(@Value.str (@Str.ofString "other") (nat_lit 954)), (@Value.str (@Str.ofString "things") (nat_lit 955))]) (nat_lit 0)) (.mk []))
def o586 (P : Params) : Obj := (@Obj.mk (@Value.type "tuple") none (@Data.seq (.mk []) (nat_lit 0)) (.mk []))
def o587 (P : Params) : Obj := (@Obj.mk Value.none none (@Data.func (@FuncData.mk (@Str.ofString "check_other_house") (@Str.ofString "check_other_house") (defArgs (topS 58)) (@FuncBody.stmts (defBody (topS 58))) (defScope (topS 58)) (nat_lit 0) [] Value.none Value.none Value.none Value.none none Value.none Value.none (nat_lit 0))) (.mk []))
def o588 (P : Params) : Obj := (@Obj.mk (@Value.type "code") none (@Data.fields (.mk [(@Value.str (@Str.ofString "check_other_house") (nat_lit 951)), (@Value.str (@Str.ofString "check_other_house") (nat_lit 952)), (@Value.str (@Str.ofString "/claim/cut.py") (nat_lit 953)), (@Value.int (.ofNat (nat_lit 281)) (nat_lit 0)), (@Value.int (.ofNat (nat_lit 2)) (nat_lit 0)), (@Value.int (.ofNat (nat_lit 0)) (nat_lit 0)), (@Value.int (.ofNat (nat_lit 0)) (nat_lit 0)), (@Value.int (.ofNat (nat_lit 3)) (nat_lit 0)), (@Value.ref (nat_lit 583)), (@Value.bool true), (@Value.int (.ofNat (nat_lit 181)) (nat_lit 0)), (@Value.ref (nat_lit 584)), Value.none, (@Value.ref (nat_lit 585)), (@Value.ref (nat_lit 586)), (@Value.ref (nat_lit 587)), (@Value.int (.ofNat (nat_lit 956)) (nat_lit 0)), (@Value.int (.ofNat (nat_lit 281)) (nat_lit 0)), (@Value.str (@Str.ofString "/claim/cut.py") (nat_lit 957))])) (.mk []))
def o589 (P : Params) : Obj := (@Obj.mk (@Value.type "function") none (@Data.func (@FuncData.mk (@Str.ofString "check_other_house") (@Str.ofString "check_other_house") (defArgs (topS 58)) (@FuncBody.stmts (defBody (topS 58))) (defScope (topS 58)) (nat_lit 3) [] Value.none Value.none Value.none (@Value.str (@Str.ofString "menuhouses.houses") (nat_lit 942)) none (@Value.ref (nat_lit 588)) Value.none (nat_lit 0))) (.mk []))
def o590 (P : Params) : Obj := (@Obj.mk (@Value.type "tuple") none (@Data.seq (.mk []) (nat_lit 0)) (.mk []))
def o591 (P : Params) : Obj := (@Obj.mk Value.none none (@Data.fields (.mk [])) (.mk []))
def o592 (P : Params) : Obj := (@Obj.mk (@Value.type "tuple") none (@Data.seq (.mk [(@Value.str (@Str.ofString "rankings") (nat_lit 962)), (@Value.str (@Str.ofString "at") (nat_lit 963)), (@Value.str (@Str.ofString "ranking") (nat_lit 964))]) (nat_lit 0)) (.mk []))
def o593 (P : Params) : Obj := (@Obj.mk (@Value.type "tuple") none (@Data.seq (.mk []) (nat_lit 0)) (.mk []))
def o594 (P : Params) : Obj := (@Obj.mk Value.none none (@Data.func (@FuncData.mk (@Str.ofString "check_rankings") (@Str.ofString "check_rankings") (defArgs (topS 59)) (@FuncBody.stmts (defBody (topS 59))) (defScope (topS 59)) (nat_lit 0) [] Value.none Value.none Value.none Value.none none Value.none Value.none (nat_lit 0))) (.mk []))
def o595 (P : Params) : Obj := (@Obj.mk (@Value.type "code") none (@Data.fields (.mk [(@Value.str (@Str.ofString "check_rankings") (nat_lit 959)), (@Value.str (@Str.ofString "check_rankings") (nat_lit 960)), (@Value.str (@Str.ofString "/claim/cut.py") (nat_lit 961)), (@Value.int (.ofNat (nat_lit 285)) (nat_lit 0)), (@Value.int (.ofNat (nat_lit 1)) (nat_lit 0)), (@Value.int (.ofNat (nat_lit 0)) (nat_lit 0)), (@Value.int (.ofNat (nat_lit 0)) (nat_lit 0)), (@Value.int (.ofNat (nat_lit 3)) (nat_lit 0)), (@Value.ref (nat_lit 590)), (@Value.bool true), (@Value.int (.ofNat (nat_lit 181)) (nat_lit 0)), (@Value.ref (nat_lit 591)), Value.none, (@Value.ref (nat_lit 592)), (@Value.ref (nat_lit 593)), (@Value.ref (nat_lit 594)), (@Value.int (.ofNat (nat_lit 965)) (nat_lit 0)), (@Value.int (.ofNat (nat_lit 285)) (nat_lit 0)), (@Value.str (@Str.ofString "/claim/cut.py") (nat_lit 966))])) (.mk []))
def o596 (P : Params) : Obj := (@Obj.mk (@Value.type "function") none (@Data.func (@FuncData.mk (@Str.ofString "check_rankings") (@Str.ofString "check_rankings") (defArgs (topS 59)) (@FuncBody.stmts (defBody (topS 59))) (defScope (topS 59)) (nat_lit 3) [] Value.none Value.none Value.none (@Value.str (@Str.ofString "menuhouses.houses") (nat_lit 942)) none (@Value.ref (nat_lit 595)) Value.none (nat_lit 0))) (.mk []))
def o597 (P : Params) : Obj := (@Obj.mk (@Value.type "tuple") none (@Data.seq (.mk []) (nat_lit 0)) (.mk []))
def o598 (P : Params) : Obj := (@Obj.mk Value.none none (@Data.fields (.mk [])) (.mk []))
def o599 (P : Params) : Obj := (@Obj.mk Value.none none (@Data.func (@FuncData.mk (@Str.ofString "are_rows_of_a_house") (@Str.ofString "are_rows_of_a_house") (defArgs (topS 60)) (@FuncBody.stmts (defBody (topS 60))) (defScope (topS 60)) (nat_lit 0) [] Value.none Value.none Value.none Value.none none Value.none Value.none (nat_lit 0))) (.mk []))
def o600 (P : Params) : Obj := (@Obj.mk (@Value.type "code") none (@Data.fields (.mk [(@Value.str (@Str.ofString "are_rows_of_a_house") (nat_lit 968)), (@Value.str (@Str.ofString "are_rows_of_a_house") (nat_lit 969)), (@Value.str (@Str.ofString "/claim/cut.py") (nat_lit 970)), (@Value.int (.ofNat (nat_lit 291)) (nat_lit 0)), (@Value.int (.ofNat (nat_lit 1)) (nat_lit 0)), (@Value.int (.ofNat (nat_lit 0)) (nat_lit 0)), (@Value.int (.ofNat (nat_lit 0)) (nat_lit 0)), (@Value.int (.ofNat (nat_lit 3)) (nat_lit 0)), (@Value.ref (nat_lit 597)), (@Value.bool true), (@Value.int (.ofNat (nat_lit 181)) (nat_lit 0)), (@Value.ref (nat_lit 598)), Value.none, Value.none, Value.none, (@Value.ref (nat_lit 599)), (@Value.int (.ofNat (nat_lit 971)) (nat_lit 0)), (@Value.int (.ofNat (nat_lit 291)) (nat_lit 0)), (@Value.str (@Str.ofString "/claim/cut.py") (nat_lit 972))])) (.mk []))
def o601 (P : Params) : Obj := (@Obj.mk (@Value.type "function") none (@Data.func (@FuncData.mk (@Str.ofString "are_rows_of_a_house") (@Str.ofString "are_rows_of_a_house") (defArgs (topS 60)) (@FuncBody.stmts (defBody (topS 60))) (defScope (topS 60)) (nat_lit 3) [] Value.none Value.none Value.none (@Value.str (@Str.ofString "menuhouses.houses") (nat_lit 942)) none (@Value.ref (nat_lit 600)) Value.none (nat_lit 0))) (.mk []))
def o602 (P : Params) : Obj := (@Obj.mk (@Value.type "tuple") none (@Data.seq (.mk []) (nat_lit 0)) (.mk []))
def o603 (P : Params) : Obj := (@Obj.mk Value.none none (@Data.fields (.mk [])) (.mk []))
def o604 (P : Params) : Obj := (@Obj.mk Value.none none (@Data.func (@FuncData.mk (@Str.ofString "house_of_rows") (@Str.ofString "house_of_rows") (defArgs (topS 61)) (@FuncBody.stmts (defBody (topS 61))) (defScope (topS 61)) (nat_lit 0) [] Value.none Value.none Value.none Value.none none Value.none Value.none (nat_lit 0))) (.mk []))
def o605 (P : Params) : Obj := (@Obj.mk (@Value.type "code") none (@Data.fields (.mk [(@Value.str (@Str.ofString "house_of_rows") (nat_lit 974)), (@Value.str (@Str.ofString "house_of_rows") (nat_lit 975)), (@Value.str (@Str.ofString "/claim/cut.py") (nat_lit 976)), (@Value.int (.ofNat (nat_lit 298)) (nat_lit 0)), (@Value.int (.ofNat (nat_lit 2)) (nat_lit 0)), (@Value.int (.ofNat (nat_lit 0)) (nat_lit 0)), (@Value.int (.ofNat (nat_lit 0)) (nat_lit 0)), (@Value.int (.ofNat (nat_lit 3)) (nat_lit 0)), (@Value.ref (nat_lit 602)), (@Value.bool true), (@Value.int (.ofNat (nat_lit 181)) (nat_lit 0)), (@Value.ref (nat_lit 603)), Value.none, Value.none, Value.none, (@Value.ref (nat_lit 604)), (@Value.int (.ofNat (nat_lit 977)) (nat_lit 0)), (@Value.int (.ofNat (nat_lit 298)) (nat_lit 0)), (@Value.str (@Str.ofString "/claim/cut.py") (nat_lit 978))])) (.mk []))
def o606 (P : Params) : Obj := (@Obj.mk (@Value.type "function") none (@Data.func (@FuncData.mk (@Str.ofString "house_of_rows") (@Str.ofString "house_of_rows") (defArgs (topS 61)) (@FuncBody.stmts (defBody (topS 61))) (defScope (topS 61)) (nat_lit 3) [] Value.none Value.none Value.none (@Value.str (@Str.ofString "menuhouses.houses") (nat_lit 942)) none (@Value.ref (nat_lit 605)) Value.none (nat_lit 0))) (.mk []))
def o3v5 (P : Params) : Obj := (@Obj.mk (@Value.type "dict") none (@Data.dict (.mk [(@DictEntry.mk (@PyData.keyHash P (@Str.ofString "__name__")) (@Value.str (@Str.ofString "__name__") (nat_lit 165)) (@Value.str (@Str.ofString "law_menuhouses_k20_tables_of_houses") (nat_lit 1134))), (@DictEntry.mk (@PyData.keyHash P (@Str.ofString "__doc__")) (@Value.str (@Str.ofString "__doc__") (nat_lit 166)) Value.none), (@DictEntry.mk (@PyData.keyHash P (@Str.ofString "__package__")) (@Value.str (@Str.ofString "__package__") (nat_lit 167)) Value.none), (@DictEntry.mk (@PyData.keyHash P (@Str.ofString "__loader__")) (@Value.str (@Str.ofString "__loader__") (nat_lit 168)) (@Value.builtin "__main__.__loader__#opaque")), (@DictEntry.mk (@PyData.keyHash P (@Str.ofString "__spec__")) (@Value.str (@Str.ofString "__spec__") (nat_lit 169)) Value.none), (@DictEntry.mk (@PyData.keyHash P (@Str.ofString "__annotations__")) (@Value.str (@Str.ofString "__annotations__") (nat_lit 170)) (@Value.ref (nat_lit 6))), (@DictEntry.mk (@PyData.keyHash P (@Str.ofString "__builtins__")) (@Value.str (@Str.ofString "__builtins__") (nat_lit 171)) (@Value.ref (nat_lit 4))), (@DictEntry.mk (@PyData.keyHash P (@Str.ofString "__file__")) (@Value.str (@Str.ofString "__file__") (nat_lit 173)) (@Value.str (@Str.ofString "/claim/cut.py") (nat_lit 172))), (@DictEntry.mk (@PyData.keyHash P (@Str.ofString "__cached__")) (@Value.str (@Str.ofString "__cached__") (nat_lit 174)) Value.none), (@DictEntry.mk (@PyData.keyHash P (@Str.ofString "_wall")) (@Value.str (@Str.ofString "_wall") (nat_lit 193)) (@Value.ref (nat_lit 21))), (@DictEntry.mk (@PyData.keyHash P (@Str.ofString "WrongValue")) (@Value.str (@Str.ofString "WrongValue") (nat_lit 213)) (@Value.ref (nat_lit 31))), (@DictEntry.mk (@PyData.keyHash P (@Str.ofString "InvalidText")) (@Value.str (@Str.ofString "InvalidText") (nat_lit 238)) (@Value.ref (nat_lit 51))), (@DictEntry.mk (@PyData.keyHash P (@Str.ofString "InvalidIndex")) (@Value.str (@Str.ofString "InvalidIndex") (nat_lit 263)) (@Value.ref (nat_lit 70))), (@DictEntry.mk (@PyData.keyHash P (@Str.ofString "NotAHouse")) (@Value.str (@Str.ofString "NotAHouse") (nat_lit 288)) (@Value.ref (nat_lit 89))), (@DictEntry.mk (@PyData.keyHash P (@Str.ofString "OtherThings")) (@Value.str (@Str.ofString "OtherThings") (nat_lit 313)) (@Value.ref (nat_lit 108))), (@DictEntry.mk (@PyData.keyHash P (@Str.ofString "InvalidRow")) (@Value.str (@Str.ofString "InvalidRow") (nat_lit 338)) (@Value.ref (nat_lit 127))), (@DictEntry.mk (@PyData.keyHash P (@Str.ofString "InvalidMenu")) (@Value.str (@Str.ofString "InvalidMenu") (nat_lit 363)) (@Value.ref (nat_lit 146))), (@DictEntry.mk (@PyData.keyHash P (@Str.ofString "InvalidRankings")) (@Value.str (@Str.ofString "InvalidRankings") (nat_lit 388)) (@Value.ref (nat_lit 165))), (@DictEntry.mk (@PyData.keyHash P (@Str.ofString "WrongName")) (@Value.str (@Str.ofString "WrongName") (nat_lit 406)) (@Value.ref (nat_lit 177))), (@DictEntry.mk (@PyData.keyHash P (@Str.ofString "UnknownThing")) (@Value.str (@Str.ofString "UnknownThing") (nat_lit 431)) (@Value.ref (nat_lit 197))), (@DictEntry.mk (@PyData.keyHash P (@Str.ofString "NoAnswer")) (@Value.str (@Str.ofString "NoAnswer") (nat_lit 451)) (@Value.ref (nat_lit 209))), (@DictEntry.mk (@PyData.keyHash P (@Str.ofString "TooMany")) (@Value.str (@Str.ofString "TooMany") (nat_lit 476)) (@Value.ref (nat_lit 229))), (@DictEntry.mk (@PyData.keyHash P (@Str.ofString "NoHouse")) (@Value.str (@Str.ofString "NoHouse") (nat_lit 501)) (@Value.ref (nat_lit 248))), (@DictEntry.mk (@PyData.keyHash P (@Str.ofString "MOST_THINGS")) (@Value.str (@Str.ofString "MOST_THINGS") (nat_lit 503)) (@Value.int (.ofNat (nat_lit 10)) (nat_lit 502))), (@DictEntry.mk (@PyData.keyHash P (@Str.ofString "MOST_PEOPLE")) (@Value.str (@Str.ofString "MOST_PEOPLE") (nat_lit 505)) (@Value.int (.ofNat (nat_lit 24)) (nat_lit 504))), (@DictEntry.mk (@PyData.keyHash P (@Str.ofString "LETTERS")) (@Value.str (@Str.ofString "LETTERS") (nat_lit 509)) (@Value.str (@Str.ofString "abcdefghijklmnopqrstuvwxyz") (nat_lit 508))), (@DictEntry.mk (@PyData.keyHash P (@Str.ofString "DIGITS")) (@Value.str (@Str.ofString "DIGITS") (nat_lit 511)) (@Value.str (@Str.ofString "0123456789") (nat_lit 510))), (@DictEntry.mk (@PyData.keyHash P (@Str.ofString "LONGEST_NAME")) (@Value.str (@Str.ofString "LONGEST_NAME") (nat_lit 513)) (@Value.int (.ofNat (nat_lit 8)) (nat_lit 512))), (@DictEntry.mk (@PyData.keyHash P (@Str.ofString "is_index")) (@Value.str (@Str.ofString "is_index") (nat_lit 521)) (@Value.ref (nat_lit 257))), (@DictEntry.mk (@PyData.keyHash P (@Str.ofString "is_name")) (@Value.str (@Str.ofString "is_name") (nat_lit 527)) (@Value.ref (nat_lit 262))), (@DictEntry.mk (@PyData.keyHash P (@Str.ofString "is_filled_tuple")) (@Value.str (@Str.ofString "is_filled_tuple") (nat_lit 534)) (@Value.ref (nat_lit 269))), (@DictEntry.mk (@PyData.keyHash P (@Str.ofString "is_one_of")) (@Value.str (@Str.ofString "is_one_of") (nat_lit 542)) (@Value.ref (nat_lit 276))), (@DictEntry.mk (@PyData.keyHash P (@Str.ofString "first_wrong_in_row")) (@Value.str (@Str.ofString "first_wrong_in_row") (nat_lit 551)) (@Value.ref (nat_lit 283))), (@DictEntry.mk (@PyData.keyHash P (@Str.ofString "first_wrong_on_menu")) (@Value.str (@Str.ofString "first_wrong_on_menu") (nat_lit 561)) (@Value.ref (nat_lit 290))), (@DictEntry.mk (@PyData.keyHash P (@Str.ofString "check_row")) (@Value.str (@Str.ofString "check_row") (nat_lit 569)) (@Value.ref (nat_lit 297))), (@DictEntry.mk (@PyData.keyHash P (@Str.ofString "check_menu")) (@Value.str (@Str.ofString "check_menu") (nat_lit 578)) (@Value.ref (nat_lit 304))), (@DictEntry.mk (@PyData.keyHash P (@Str.ofString "check_thing")) (@Value.str (@Str.ofString "check_thing") (nat_lit 586)) (@Value.ref (nat_lit 311))), (@DictEntry.mk (@PyData.keyHash P (@Str.ofString "mask_of_all")) (@Value.str (@Str.ofString "mask_of_all") (nat_lit 595)) (@Value.ref (nat_lit 318))), (@DictEntry.mk (@PyData.keyHash P (@Str.ofString "index_of")) (@Value.str (@Str.ofString "index_of") (nat_lit 601)) (@Value.ref (nat_lit 323))), (@DictEntry.mk (@PyData.keyHash P (@Str.ofString "mask_of")) (@Value.str (@Str.ofString "mask_of") (nat_lit 611)) (@Value.ref (nat_lit 330))), (@DictEntry.mk (@PyData.keyHash P (@Str.ofString "indexes_of")) (@Value.str (@Str.ofString "indexes_of") (nat_lit 617)) (@Value.ref (nat_lit 335))), (@DictEntry.mk (@PyData.keyHash P (@Str.ofString "names_of")) (@Value.str (@Str.ofString "names_of") (nat_lit 623)) (@Value.ref (nat_lit 340))), (@DictEntry.mk (@PyData.keyHash P (@Str.ofString "below_masks")) (@Value.str (@Str.ofString "below_masks") (nat_lit 629)) (@Value.ref (nat_lit 345))), (@DictEntry.mk (@PyData.keyHash P (@Str.ofString "is_covered")) (@Value.str (@Str.ofString "is_covered") (nat_lit 638)) (@Value.ref (nat_lit 352))), (@DictEntry.mk (@PyData.keyHash P (@Str.ofString "greatest")) (@Value.str (@Str.ofString "greatest") (nat_lit 647)) (@Value.ref (nat_lit 359))), (@DictEntry.mk (@PyData.keyHash P (@Str.ofString "greater_sets")) (@Value.str (@Str.ofString "greater_sets") (nat_lit 655)) (@Value.ref (nat_lit 364))), (@DictEntry.mk (@PyData.keyHash P (@Str.ofString "pairs_back")) (@Value.str (@Str.ofString "pairs_back") (nat_lit 666)) (@Value.ref (nat_lit 371))), (@DictEntry.mk (@PyData.keyHash P (@Str.ofString "pairs_for")) (@Value.str (@Str.ofString "pairs_for") (nat_lit 680)) (@Value.ref (nat_lit 378))), (@DictEntry.mk (@PyData.keyHash P (@Str.ofString "most_pairs")) (@Value.str (@Str.ofString "most_pairs") (nat_lit 692)) (@Value.ref (nat_lit 385))), (@DictEntry.mk (@PyData.keyHash P (@Str.ofString "chains")) (@Value.str (@Str.ofString "chains") (nat_lit 704)) (@Value.ref (nat_lit 392))), (@DictEntry.mk (@PyData.keyHash P (@Str.ofString "takes")) (@Value.str (@Str.ofString "takes") (nat_lit 715)) (@Value.ref (nat_lit 399))), (@DictEntry.mk (@PyData.keyHash P (@Str.ofString "indexes_taken")) (@Value.str (@Str.ofString "indexes_taken") (nat_lit 721)) (@Value.ref (nat_lit 404))), (@DictEntry.mk (@PyData.keyHash P (@Str.ofString "joining_steps")) (@Value.str (@Str.ofString "joining_steps") (nat_lit 727)) (@Value.ref (nat_lit 409))), (@DictEntry.mk (@PyData.keyHash P (@Str.ofString "dead_end")) (@Value.str (@Str.ofString "dead_end") (nat_lit 735)) (@Value.ref (nat_lit 416))), (@DictEntry.mk (@PyData.keyHash P (@Str.ofString "rows_ahead")) (@Value.str (@Str.ofString "rows_ahead") (nat_lit 746)) (@Value.ref (nat_lit 423))), (@DictEntry.mk (@PyData.keyHash P (@Str.ofString "crests_of_steps")) (@Value.str (@Str.ofString "crests_of_steps") (nat_lit 752)) (@Value.ref (nat_lit 428))), (@DictEntry.mk (@PyData.keyHash P (@Str.ofString "row_with_crests")) (@Value.str (@Str.ofString "row_with_crests") (nat_lit 758)) (@Value.ref (nat_lit 433))), (@DictEntry.mk (@PyData.keyHash P (@Str.ofString "fewest_rows")) (@Value.str (@Str.ofString "fewest_rows") (nat_lit 764)) (@Value.ref (nat_lit 438))), (@DictEntry.mk (@PyData.keyHash P (@Str.ofString "Ranking")) (@Value.str (@Str.ofString "Ranking") (nat_lit 941)) (@Value.ref (nat_lit 571))), (@DictEntry.mk (@PyData.keyHash P (@Str.ofString "check_house")) (@Value.str (@Str.ofString "check_house") (nat_lit 950)) (@Value.ref (nat_lit 582))), (@DictEntry.mk (@PyData.keyHash P (@Str.ofString "check_other_house")) (@Value.str (@Str.ofString "check_other_house") (nat_lit 958)) (@Value.ref (nat_lit 589))), (@DictEntry.mk (@PyData.keyHash P (@Str.ofString "check_rankings")) (@Value.str (@Str.ofString "check_rankings") (nat_lit 967)) (@Value.ref (nat_lit 596))), (@DictEntry.mk (@PyData.keyHash P (@Str.ofString "are_rows_of_a_house")) (@Value.str (@Str.ofString "are_rows_of_a_house") (nat_lit 973)) (@Value.ref (nat_lit 601))), (@DictEntry.mk (@PyData.keyHash P (@Str.ofString "house_of_rows")) (@Value.str (@Str.ofString "house_of_rows") (nat_lit 979)) (@Value.ref (nat_lit 606))), (@DictEntry.mk (@PyData.keyHash P (@Str.ofString "House")) (@Value.str (@Str.ofString "House") (nat_lit 1133)) (@Value.ref (nat_lit 722))), (@DictEntry.mk (@PyData.keyHash P (@Str.ofString "_law_purse")) (@Value.str (@Str.ofString "_law_purse") (nat_lit 1146)) (@Value.ref (nat_lit 733))), (@DictEntry.mk (@PyData.keyHash P (@Str.ofString "_law_draw")) (@Value.str (@Str.ofString "_law_draw") (nat_lit 1155)) (@Value.ref (nat_lit 740))), (@DictEntry.mk (@PyData.keyHash P (@Str.ofString "_law_things")) (@Value.str (@Str.ofString "_law_things") (nat_lit 1166)) (@Value.ref (nat_lit 747))), (@DictEntry.mk (@PyData.keyHash P (@Str.ofString "_law_order")) (@Value.str (@Str.ofString "_law_order") (nat_lit 1177)) (@Value.ref (nat_lit 754))), (@DictEntry.mk (@PyData.keyHash P (@Str.ofString "_law_near")) (@Value.str (@Str.ofString "_law_near") (nat_lit 1188)) (@Value.ref (nat_lit 761))), (@DictEntry.mk (@PyData.keyHash P (@Str.ofString "_law_rows")) (@Value.str (@Str.ofString "_law_rows") (nat_lit 1202)) (@Value.ref (nat_lit 768))), (@DictEntry.mk (@PyData.keyHash P (@Str.ofString "_law_house")) (@Value.str (@Str.ofString "_law_house") (nat_lit 1208)) (@Value.ref (nat_lit 773))), (@DictEntry.mk (@PyData.keyHash P (@Str.ofString "_law_below")) (@Value.str (@Str.ofString "_law_below") (nat_lit 1216)) (@Value.ref (nat_lit 780))), (@DictEntry.mk (@PyData.keyHash P (@Str.ofString "_law_part")) (@Value.str (@Str.ofString "_law_part") (nat_lit 1222)) (@Value.ref (nat_lit 785)))]) (nat_lit 74)) (.mk []))
def o12v6 (P : Params) : Obj := (@Obj.mk Value.none none (@Data.fields (.mk [(@Value.int (.ofNat (nat_lit 1)) (nat_lit 0)), (@Value.int (.ofNat (nat_lit 0)) (nat_lit 0)), (@Value.ref (nat_lit 20)), (@Value.int (.ofNat (nat_lit 5)) (nat_lit 0)), (@Value.int (.ofNat (nat_lit 0)) (nat_lit 0)), (@Value.ref (nat_lit 27)), (@Value.int (.ofNat (nat_lit 7)) (nat_lit 0)), (@Value.int (.ofNat (nat_lit 0)) (nat_lit 0)), (@Value.ref (nat_lit 40)), (@Value.int (.ofNat (nat_lit 11)) (nat_lit 0)), (@Value.int (.ofNat (nat_lit 0)) (nat_lit 0)), (@Value.ref (nat_lit 59)), (@Value.int (.ofNat (nat_lit 15)) (nat_lit 0)), (@Value.int (.ofNat (nat_lit 0)) (nat_lit 0)), (@Value.ref (nat_lit 78)), (@Value.int (.ofNat (nat_lit 19)) (nat_lit 0)), (@Value.int (.ofNat (nat_lit 0)) (nat_lit 0)), (@Value.ref (nat_lit 97)), (@Value.int (.ofNat (nat_lit 23)) (nat_lit 0)), (@Value.int (.ofNat (nat_lit 0)) (nat_lit 0)), (@Value.ref (nat_lit 116)), (@Value.int (.ofNat (nat_lit 27)) (nat_lit 0)), (@Value.int (.ofNat (nat_lit 0)) (nat_lit 0)), (@Value.ref (nat_lit 135)), (@Value.int (.ofNat (nat_lit 31)) (nat_lit 0)), (@Value.int (.ofNat (nat_lit 0)) (nat_lit 0)), (@Value.ref (nat_lit 154)), (@Value.int (.ofNat (nat_lit 35)) (nat_lit 0)), (@Value.int (.ofNat (nat_lit 0)) (nat_lit 0)), (@Value.ref (nat_lit 173)), (@Value.int (.ofNat (nat_lit 37)) (nat_lit 0)), (@Value.int (.ofNat (nat_lit 0)) (nat_lit 0)), (@Value.ref (nat_lit 186)), (@Value.int (.ofNat (nat_lit 41)) (nat_lit 0)), (@Value.int (.ofNat (nat_lit 0)) (nat_lit 0)), (@Value.ref (nat_lit 205)), (@Value.int (.ofNat (nat_lit 43)) (nat_lit 0)), (@Value.int (.ofNat (nat_lit 0)) (nat_lit 0)), (@Value.ref (nat_lit 218)), (@Value.int (.ofNat (nat_lit 47)) (nat_lit 0)), (@Value.int (.ofNat (nat_lit 0)) (nat_lit 0)), (@Value.ref (nat_lit 237)), (@Value.int (.ofNat (nat_lit 57)) (nat_lit 0)), (@Value.int (.ofNat (nat_lit 0)) (nat_lit 0)), (@Value.ref (nat_lit 256)), (@Value.int (.ofNat (nat_lit 59)) (nat_lit 0)), (@Value.int (.ofNat (nat_lit 0)) (nat_lit 0)), (@Value.ref (nat_lit 261)), (@Value.int (.ofNat (nat_lit 63)) (nat_lit 0)), (@Value.int (.ofNat (nat_lit 0)) (nat_lit 0)), (@Value.ref (nat_lit 268)), (@Value.int (.ofNat (nat_lit 65)) (nat_lit 0)), (@Value.int (.ofNat (nat_lit 0)) (nat_lit 0)), (@Value.ref (nat_lit 275)), (@Value.int (.ofNat (nat_lit 67)) (nat_lit 0)), (@Value.int (.ofNat (nat_lit 0)) (nat_lit 0)), (@Value.ref (nat_lit 282)), (@Value.int (.ofNat (nat_lit 72)) (nat_lit 0)), (@Value.int (.ofNat (nat_lit 0)) (nat_lit 0)), (@Value.ref (nat_lit 289)), (@Value.int (.ofNat (nat_lit 79)) (nat_lit 0)), (@Value.int (.ofNat (nat_lit 0)) (nat_lit 0)), (@Value.ref (nat_lit 296)), (@Value.int (.ofNat (nat_lit 85)) (nat_lit 0)), (@Value.int (.ofNat (nat_lit 0)) (nat_lit 0)), (@Value.ref (nat_lit 303)), (@Value.int (.ofNat (nat_lit 91)) (nat_lit 0)), (@Value.int (.ofNat (nat_lit 0)) (nat_lit 0)), (@Value.ref (nat_lit 310)), (@Value.int (.ofNat (nat_lit 95)) (nat_lit 0)), (@Value.int (.ofNat (nat_lit 0)) (nat_lit 0)), (@Value.ref (nat_lit 317)), (@Value.int (.ofNat (nat_lit 97)) (nat_lit 0)), (@Value.int (.ofNat (nat_lit 0)) (nat_lit 0)), (@Value.ref (nat_lit 322)), (@Value.int (.ofNat (nat_lit 99)) (nat_lit 0)), (@Value.int (.ofNat (nat_lit 0)) (nat_lit 0)), (@Value.ref (nat_lit 329)), (@Value.int (.ofNat (nat_lit 104)) (nat_lit 0)), (@Value.int (.ofNat (nat_lit 0)) (nat_lit 0)), (@Value.ref (nat_lit 334)), (@Value.int (.ofNat (nat_lit 106)) (nat_lit 0)), (@Value.int (.ofNat (nat_lit 0)) (nat_lit 0)), (@Value.ref (nat_lit 339)), (@Value.int (.ofNat (nat_lit 108)) (nat_lit 0)), (@Value.int (.ofNat (nat_lit 0)) (nat_lit 0)), (@Value.ref (nat_lit 344)), (@Value.int (.ofNat (nat_lit 110)) (nat_lit 0)), (@Value.int (.ofNat (nat_lit 0)) (nat_lit 0)), (@Value.ref (nat_lit 351)), (@Value.int (.ofNat (nat_lit 115)) (nat_lit 0)), (@Value.int (.ofNat (nat_lit 0)) (nat_lit 0)), (@Value.ref (nat_lit 358)), (@Value.int (.ofNat (nat_lit 122)) (nat_lit 0)), (@Value.int (.ofNat (nat_lit 0)) (nat_lit 0)), (@Value.ref (nat_lit 363)), (@Value.int (.ofNat (nat_lit 124)) (nat_lit 0)), (@Value.int (.ofNat (nat_lit 0)) (nat_lit 0)), (@Value.ref (nat_lit 370)), (@Value.int (.ofNat (nat_lit 130)) (nat_lit 0)), (@Value.int (.ofNat (nat_lit 0)) (nat_lit 0)), (@Value.ref (nat_lit 377)), (@Value.int (.ofNat (nat_lit 142)) (nat_lit 0)), (@Value.int (.ofNat (nat_lit 0)) (nat_lit 0)), (@Value.ref (nat_lit 384)), (@Value.int (.ofNat (nat_lit 150)) (nat_lit 0)), (@Value.int (.ofNat (nat_lit 0)) (nat_lit 0)), (@Value.ref (nat_lit 391)), (@Value.int (.ofNat (nat_lit 161)) (nat_lit 0)), (@Value.int (.ofNat (nat_lit 0)) (nat_lit 0)), (@Value.ref (nat_lit 398)), (@Value.int (.ofNat (nat_lit 163)) (nat_lit 0)), (@Value.int (.ofNat (nat_lit 0)) (nat_lit 0)), (@Value.ref (nat_lit 403)), (@Value.int (.ofNat (nat_lit 165)) (nat_lit 0)), (@Value.int (.ofNat (nat_lit 0)) (nat_lit 0)), (@Value.ref (nat_lit 408)), (@Value.int (.ofNat (nat_lit 174)) (nat_lit 0)), (@Value.int (.ofNat (nat_lit 0)) (nat_lit 0)), (@Value.ref (nat_lit 415)), (@Value.int (.ofNat (nat_lit 179)) (nat_lit 0)), (@Value.int (.ofNat (nat_lit 0)) (nat_lit 0)), (@Value.ref (nat_lit 422)), (@Value.int (.ofNat (nat_lit 186)) (nat_lit 0)), (@Value.int (.ofNat (nat_lit 0)) (nat_lit 0)), (@Value.ref (nat_lit 427)), (@Value.int (.ofNat (nat_lit 192)) (nat_lit 0)), (@Value.int (.ofNat (nat_lit 0)) (nat_lit 0)), (@Value.ref (nat_lit 432)), (@Value.int (.ofNat (nat_lit 202)) (nat_lit 0)), (@Value.int (.ofNat (nat_lit 0)) (nat_lit 0)), (@Value.ref (nat_lit 437)), (@Value.int (.ofNat (nat_lit 208)) (nat_lit 0)), (@Value.int (.ofNat (nat_lit 0)) (nat_lit 0)), (@Value.ref (nat_lit 444)), (@Value.int (.ofNat (nat_lit 278)) (nat_lit 0)), (@Value.int (.ofNat (nat_lit 0)) (nat_lit 0)), (@Value.ref (nat_lit 581)), (@Value.int (.ofNat (nat_lit 281)) (nat_lit 0)), (@Value.int (.ofNat (nat_lit 0)) (nat_lit 0)), (@Value.ref (nat_lit 588)), (@Value.int (.ofNat (nat_lit 285)) (nat_lit 0)), (@Value.int (.ofNat (nat_lit 0)) (nat_lit 0)), (@Value.ref (nat_lit 595)), (@Value.int (.ofNat (nat_lit 291)) (nat_lit 0)), (@Value.int (.ofNat (nat_lit 0)) (nat_lit 0)), (@Value.ref (nat_lit 600)), (@Value.int (.ofNat (nat_lit 298)) (nat_lit 0)), (@Value.int (.ofNat (nat_lit 0)) (nat_lit 0)), (@Value.ref (nat_lit 605)), (@Value.int (.ofNat (nat_lit 301)) (nat_lit 0)), (@Value.int (.ofNat (nat_lit 0)) (nat_lit 0)), (@Value.ref (nat_lit 612)), (@Value.int (.ofNat (nat_lit 385)) (nat_lit 0)), (@Value.int (.ofNat (nat_lit 0)) (nat_lit 0)), (@Value.ref (nat_lit 732)), (@Value.int (.ofNat (nat_lit 391)) (nat_lit 0)), (@Value.int (.ofNat (nat_lit 0)) (nat_lit 0)), (@Value.ref (nat_lit 739)), (@Value.int (.ofNat (nat_lit 397)) (nat_lit 0)), (@Value.int (.ofNat (nat_lit 0)) (nat_lit 0)), (@Value.ref (nat_lit 746)), (@Value.int (.ofNat (nat_lit 403)) (nat_lit 0)), (@Value.int (.ofNat (nat_lit 0)) (nat_lit 0)), (@Value.ref (nat_lit 753)), (@Value.int (.ofNat (nat_lit 408)) (nat_lit 0)), (@Value.int (.ofNat (nat_lit 0)) (nat_lit 0)), (@Value.ref (nat_lit 760)), (@Value.int (.ofNat (nat_lit 414)) (nat_lit 0)), (@Value.int (.ofNat (nat_lit 0)) (nat_lit 0)), (@Value.ref (nat_lit 767)), (@Value.int (.ofNat (nat_lit 424)) (nat_lit 0)), (@Value.int (.ofNat (nat_lit 0)) (nat_lit 0)), (@Value.ref (nat_lit 772)), (@Value.int (.ofNat (nat_lit 430)) (nat_lit 0)), (@Value.int (.ofNat (nat_lit 0)) (nat_lit 0)), (@Value.ref (nat_lit 779)), (@Value.int (.ofNat (nat_lit 432)) (nat_lit 0)), (@Value.int (.ofNat (nat_lit 0)) (nat_lit 0)), (@Value.ref (nat_lit 784))])) (.mk []))
def o607 (P : Params) : Obj := (@Obj.mk (@Value.type "tuple") none (@Data.seq (.mk []) (nat_lit 0)) (.mk []))
def o608 (P : Params) : Obj := (@Obj.mk (@Value.type "builtin_function_or_method") none (@Data.fields (.mk [(@Value.builtin "type.__prepare__"), (@Value.type "type")])) (.mk []))
def o609 (P : Params) : Obj := (@Obj.mk (@Value.type "dict") none (@Data.dict (.mk [(@DictEntry.mk (@PyData.keyHash P (@Str.ofString "__module__")) (@Value.str (@Str.ofString "__module__") (nat_lit 987)) (@Value.str (@Str.ofString "menuhouses.houses") (nat_lit 942))), (@DictEntry.mk (@PyData.keyHash P (@Str.ofString "__qualname__")) (@Value.str (@Str.ofString "__qualname__") (nat_lit 989)) (@Value.str (@Str.ofString "House") (nat_lit 988))), (@DictEntry.mk (@PyData.keyHash P (@Str.ofString "__firstlineno__")) (@Value.str (@Str.ofString "__firstlineno__") (nat_lit 991)) (@Value.int (.ofNat (nat_lit 301)) (nat_lit 990))), (@DictEntry.mk (@PyData.keyHash P (@Str.ofString "__init__")) (@Value.str (@Str.ofString "__init__") (nat_lit 997)) (@Value.ref (nat_lit 618))), (@DictEntry.mk (@PyData.keyHash P (@Str.ofString "read")) (@Value.str (@Str.ofString "read") (nat_lit 1015)) (@Value.ref (nat_lit 625))), (@DictEntry.mk (@PyData.keyHash P (@Str.ofString "rankings")) (@Value.str (@Str.ofString "rankings") (nat_lit 1023)) (@Value.ref (nat_lit 634))), (@DictEntry.mk (@PyData.keyHash P (@Str.ofString "things")) (@Value.str (@Str.ofString "things") (nat_lit 1031)) (@Value.ref (nat_lit 642))), (@DictEntry.mk (@PyData.keyHash P (@Str.ofString "crest_masks")) (@Value.str (@Str.ofString "crest_masks") (nat_lit 1039)) (@Value.ref (nat_lit 650))), (@DictEntry.mk (@PyData.keyHash P (@Str.ofString "__call__")) (@Value.str (@Str.ofString "__call__") (nat_lit 1048)) (@Value.ref (nat_lit 657))), (@DictEntry.mk (@PyData.keyHash P (@Str.ofString "within")) (@Value.str (@Str.ofString "within") (nat_lit 1056)) (@Value.ref (nat_lit 664))), (@DictEntry.mk (@PyData.keyHash P (@Str.ofString "without")) (@Value.str (@Str.ofString "without") (nat_lit 1062)) (@Value.ref (nat_lit 669))), (@DictEntry.mk (@PyData.keyHash P (@Str.ofString "table")) (@Value.str (@Str.ofString "table") (nat_lit 1068)) (@Value.ref (nat_lit 674))), (@DictEntry.mk (@PyData.keyHash P (@Str.ofString "__or__")) (@Value.str (@Str.ofString "__or__") (nat_lit 1077)) (@Value.ref (nat_lit 681))), (@DictEntry.mk (@PyData.keyHash P (@Str.ofString "__and__")) (@Value.str (@Str.ofString "__and__") (nat_lit 1087)) (@Value.ref (nat_lit 688))), (@DictEntry.mk (@PyData.keyHash P (@Str.ofString "__contains__")) (@Value.str (@Str.ofString "__contains__") (nat_lit 1093)) (@Value.ref (nat_lit 693))), (@DictEntry.mk (@PyData.keyHash P (@Str.ofString "__len__")) (@Value.str (@Str.ofString "__len__") (nat_lit 1100)) (@Value.ref (nat_lit 700))), (@DictEntry.mk (@PyData.keyHash P (@Str.ofString "__str__")) (@Value.str (@Str.ofString "__str__") (nat_lit 1106)) (@Value.ref (nat_lit 705))), (@DictEntry.mk (@PyData.keyHash P (@Str.ofString "__repr__")) (@Value.str (@Str.ofString "__repr__") (nat_lit 1113)) (@Value.ref (nat_lit 712))), (@DictEntry.mk (@PyData.keyHash P (@Str.ofString "__eq__")) (@Value.str (@Str.ofString "__eq__") (nat_lit 1121)) (@Value.ref (nat_lit 719))), (@DictEntry.mk (@PyData.keyHash P (@Str.ofString "__static_attributes__")) (@Value.str (@Str.ofString "__static_attributes__") (nat_lit 1125)) (@Value.ref (nat_lit 720)))]) (nat_lit 20)) (.mk []))
def o610 (P : Params) : Obj := (@Obj.mk (@Value.type "tuple") none (@Data.seq (.mk []) (nat_lit 0)) (.mk []))
def o611 (P : Params) : Obj := (@Obj.mk Value.none none (@Data.fields (.mk [(@Value.int (.ofNat (nat_lit 303)) (nat_lit 0)), (@Value.int (.ofNat (nat_lit 4)) (nat_lit 0)), (@Value.ref (nat_lit 617)), (@Value.int (.ofNat (nat_lit 316)) (nat_lit 0)), (@Value.int (.ofNat (nat_lit 4)) (nat_lit 0)), (@Value.ref (nat_lit 622)), (@Value.int (.ofNat (nat_lit 326)) (nat_lit 0)), (@Value.int (.ofNat (nat_lit 4)) (nat_lit 0)), (@Value.ref (nat_lit 632)), (@Value.int (.ofNat (nat_lit 330)) (nat_lit 0)), (@Value.int (.ofNat (nat_lit 4)) (nat_lit 0)), (@Value.ref (nat_lit 640)), (@Value.int (.ofNat (nat_lit 334)) (nat_lit 0)), (@Value.int (.ofNat (nat_lit 4)) (nat_lit 0)), (@Value.ref (nat_lit 648)), (@Value.int (.ofNat (nat_lit 337)) (nat_lit 0)), (@Value.int (.ofNat (nat_lit 4)) (nat_lit 0)), (@Value.ref (nat_lit 656)), (@Value.int (.ofNat (nat_lit 342)) (nat_lit 0)), (@Value.int (.ofNat (nat_lit 4)) (nat_lit 0)), (@Value.ref (nat_lit 663)), (@Value.int (.ofNat (nat_lit 345)) (nat_lit 0)), (@Value.int (.ofNat (nat_lit 4)) (nat_lit 0)), (@Value.ref (nat_lit 668)), (@Value.int (.ofNat (nat_lit 349)) (nat_lit 0)), (@Value.int (.ofNat (nat_lit 4)) (nat_lit 0)), (@Value.ref (nat_lit 673)), (@Value.int (.ofNat (nat_lit 354)) (nat_lit 0)), (@Value.int (.ofNat (nat_lit 4)) (nat_lit 0)), (@Value.ref (nat_lit 680)), (@Value.int (.ofNat (nat_lit 359)) (nat_lit 0)), (@Value.int (.ofNat (nat_lit 4)) (nat_lit 0)), (@Value.ref (nat_lit 687)), (@Value.int (.ofNat (nat_lit 367)) (nat_lit 0)), (@Value.int (.ofNat (nat_lit 4)) (nat_lit 0)), (@Value.ref (nat_lit 692)), (@Value.int (.ofNat (nat_lit 373)) (nat_lit 0)), (@Value.int (.ofNat (nat_lit 4)) (nat_lit 0)), (@Value.ref (nat_lit 699)), (@Value.int (.ofNat (nat_lit 376)) (nat_lit 0)), (@Value.int (.ofNat (nat_lit 4)) (nat_lit 0)), (@Value.ref (nat_lit 704)), (@Value.int (.ofNat (nat_lit 379)) (nat_lit 0)), (@Value.int (.ofNat (nat_lit 4)) (nat_lit 0)), (@Value.ref (nat_lit 711)), (@Value.int (.ofNat (nat_lit 382)) (nat_lit 0)), (@Value.int (.ofNat (nat_lit 4)) (nat_lit 0)), (@Value.ref (nat_lit 718))])) (.mk []))
def o612 (P : Params) : Obj := (@Obj.mk (@Value.type "code") none (@Data.fields (.mk [(@Value.str (@Str.ofString "House") (nat_lit 982)), (@Value.str (@Str.ofString "House") (nat_lit 983)), (@Value.str (@Str.ofString "/claim/cut.py") (nat_lit 984)), (@Value.int (.ofNat (nat_lit 301)) (nat_lit 0)), (@Value.int (.ofNat (nat_lit 0)) (nat_lit 0)), (@Value.int (.ofNat (nat_lit 0)) (nat_lit 0)), (@Value.int (.ofNat (nat_lit 0)) (nat_lit 0)), (@Value.int (.ofNat (nat_lit 0)) (nat_lit 0)), (@Value.ref (nat_lit 610)), (@Value.bool false), (@Value.int (.ofNat (nat_lit 181)) (nat_lit 0)), (@Value.ref (nat_lit 611)), Value.none, Value.none, Value.none, Value.none, (@Value.int (.ofNat (nat_lit 985)) (nat_lit 0)), (@Value.int (.ofNat (nat_lit 301)) (nat_lit 0)), (@Value.str (@Str.ofString "/claim/cut.py") (nat_lit 986))])) (.mk []))
def o613 (P : Params) : Obj := (@Obj.mk (@Value.type "frame") none Data.plain (.mk [(some (@Value.ref (nat_lit 612))), (some (@Value.ref (nat_lit 3))), (some (@Value.ref (nat_lit 609))), none, (some (@Value.str (@Str.ofString "menuhouses.houses") (nat_lit 942))), none, (some (@Value.ref (nat_lit 0)))]))
def o614 (P : Params) : Obj := (@Obj.mk (@Value.type "tuple") none (@Data.seq (.mk []) (nat_lit 0)) (.mk []))
def o615 (P : Params) : Obj := (@Obj.mk Value.none none (@Data.fields (.mk [])) (.mk []))
def o616 (P : Params) : Obj := (@Obj.mk Value.none none (@Data.func (@FuncData.mk (@Str.ofString "__init__") (@Str.ofString "House.__init__") (defArgs (inClass (topS 62) 0)) (@FuncBody.stmts (defBody (inClass (topS 62) 0))) (defScope (inClass (topS 62) 0)) (nat_lit 0) [] Value.none Value.none Value.none Value.none none Value.none Value.none (nat_lit 0))) (.mk []))
def o617 (P : Params) : Obj := (@Obj.mk (@Value.type "code") none (@Data.fields (.mk [(@Value.str (@Str.ofString "__init__") (nat_lit 992)), (@Value.str (@Str.ofString "House.__init__") (nat_lit 993)), (@Value.str (@Str.ofString "/claim/cut.py") (nat_lit 994)), (@Value.int (.ofNat (nat_lit 303)) (nat_lit 0)), (@Value.int (.ofNat (nat_lit 1)) (nat_lit 0)), (@Value.int (.ofNat (nat_lit 0)) (nat_lit 0)), (@Value.int (.ofNat (nat_lit 0)) (nat_lit 0)), (@Value.int (.ofNat (nat_lit 7)) (nat_lit 0)), (@Value.ref (nat_lit 614)), (@Value.bool true), (@Value.int (.ofNat (nat_lit 181)) (nat_lit 0)), (@Value.ref (nat_lit 615)), Value.none, Value.none, Value.none, (@Value.ref (nat_lit 616)), (@Value.int (.ofNat (nat_lit 995)) (nat_lit 0)), (@Value.int (.ofNat (nat_lit 303)) (nat_lit 0)), (@Value.str (@Str.ofString "/claim/cut.py") (nat_lit 996))])) (.mk []))
def o618 (P : Params) : Obj := (@Obj.mk (@Value.type "function") none (@Data.func (@FuncData.mk (@Str.ofString "__init__") (@Str.ofString "House.__init__") (defArgs (inClass (topS 62) 0)) (@FuncBody.stmts (defBody (inClass (topS 62) 0))) (defScope (inClass (topS 62) 0)) (nat_lit 3) [] Value.none Value.none Value.none (@Value.str (@Str.ofString "menuhouses.houses") (nat_lit 942)) none (@Value.ref (nat_lit 617)) Value.none (nat_lit 0))) (.mk []))
def o619 (P : Params) : Obj := (@Obj.mk (@Value.type "tuple") none (@Data.seq (.mk []) (nat_lit 0)) (.mk []))
def o620 (P : Params) : Obj := (@Obj.mk Value.none none (@Data.fields (.mk [])) (.mk []))
def o621 (P : Params) : Obj := (@Obj.mk Value.none none (@Data.func (@FuncData.mk (@Str.ofString "read") (@Str.ofString "House.read") (defArgs (inClass (topS 62) 1)) (@FuncBody.stmts (defBody (inClass (topS 62) 1))) (defScope (inClass (topS 62) 1)) (nat_lit 0) [] Value.none Value.none Value.none Value.none none Value.none Value.none (nat_lit 0))) (.mk []))
def o622 (P : Params) : Obj := (@Obj.mk (@Value.type "code") none (@Data.fields (.mk [(@Value.str (@Str.ofString "read") (nat_lit 998)), (@Value.str (@Str.ofString "House.read") (nat_lit 999)), (@Value.str (@Str.ofString "/claim/cut.py") (nat_lit 1000)), (@Value.int (.ofNat (nat_lit 315)) (nat_lit 0)), (@Value.int (.ofNat (nat_lit 2)) (nat_lit 0)), (@Value.int (.ofNat (nat_lit 0)) (nat_lit 0)), (@Value.int (.ofNat (nat_lit 0)) (nat_lit 0)), (@Value.int (.ofNat (nat_lit 3)) (nat_lit 0)), (@Value.ref (nat_lit 619)), (@Value.bool true), (@Value.int (.ofNat (nat_lit 181)) (nat_lit 0)), (@Value.ref (nat_lit 620)), Value.none, Value.none, Value.none, (@Value.ref (nat_lit 621)), (@Value.int (.ofNat (nat_lit 1001)) (nat_lit 0)), (@Value.int (.ofNat (nat_lit 315)) (nat_lit 0)), (@Value.str (@Str.ofString "/claim/cut.py") (nat_lit 1002))])) (.mk []))
def o623 (P : Params) : Obj := (@Obj.mk (@Value.type "function") none (@Data.func (@FuncData.mk (@Str.ofString "read") (@Str.ofString "House.read") (defArgs (inClass (topS 62) 1)) (@FuncBody.stmts (defBody (inClass (topS 62) 1))) (defScope (inClass (topS 62) 1)) (nat_lit 3) [] Value.none Value.none Value.none (@Value.str (@Str.ofString "menuhouses.houses") (nat_lit 942)) (some (nat_lit 626)) (@Value.ref (nat_lit 622)) Value.none (nat_lit 0))) (.mk []))
def o624 (P : Params) : Obj := (@Obj.mk (@Value.type "dict") none (@Data.dict (.mk [(@DictEntry.mk (@PyData.keyHash P (@Str.ofString "__module__")) (@Value.str (@Str.ofString "__module__") (nat_lit 1004)) (@Value.str (@Str.ofString "menuhouses.houses") (nat_lit 942))), (@DictEntry.mk (@PyData.keyHash P (@Str.ofString "__name__")) (@Value.str (@Str.ofString "__name__") (nat_lit 1007)) (@Value.str (@Str.ofString "read") (nat_lit 1006))), (@DictEntry.mk (@PyData.keyHash P (@Str.ofString "__qualname__")) (@Value.str (@Str.ofString "__qualname__") (nat_lit 1010)) (@Value.str (@Str.ofString "House.read") (nat_lit 1009))), (@DictEntry.mk (@PyData.keyHash P (@Str.ofString "__doc__")) (@Value.str (@Str.ofString "__doc__") (nat_lit 1012)) Value.none), (@DictEntry.mk (@PyData.keyHash P (@Str.ofString "__annotations__")) (@Value.str (@Str.ofString "__annotations__") (nat_lit 1014)) (@Value.ref (nat_lit 626)))]) (nat_lit 5)) (.mk []))
def o625 (P : Params) : Obj := (@Obj.mk (@Value.type "classmethod") (some (nat_lit 624)) (@Data.fields (.mk [(@Value.ref (nat_lit 623)), (@Value.bool false)])) (.mk []))
def o626 (P : Params) : Obj := (@Obj.mk (@Value.type "dict") none (@Data.dict (.mk []) (nat_lit 0)) (.mk []))
def o627 (P : Params) : Obj := (@Obj.mk (@Value.type "tuple") none (@Data.seq (.mk []) (nat_lit 0)) (.mk []))
def o628 (P : Params) : Obj := (@Obj.mk Value.none none (@Data.fields (.mk [])) (.mk []))
def o629 (P : Params) : Obj := (@Obj.mk (@Value.type "tuple") none (@Data.seq (.mk [(@Value.str (@Str.ofString "self") (nat_lit 1019))]) (nat_lit 0)) (.mk []))
def o630 (P : Params) : Obj := (@Obj.mk (@Value.type "tuple") none (@Data.seq (.mk []) (nat_lit 0)) (.mk []))
def o631 (P : Params) : Obj := (@Obj.mk Value.none none (@Data.func (@FuncData.mk (@Str.ofString "rankings") (@Str.ofString "House.rankings") (defArgs (inClass (topS 62) 2)) (@FuncBody.stmts (defBody (inClass (topS 62) 2))) (defScope (inClass (topS 62) 4)) (nat_lit 0) [] Value.none Value.none Value.none Value.none none Value.none Value.none (nat_lit 0))) (.mk []))
def o632 (P : Params) : Obj := (@Obj.mk (@Value.type "code") none (@Data.fields (.mk [(@Value.str (@Str.ofString "rankings") (nat_lit 1016)), (@Value.str (@Str.ofString "House.rankings") (nat_lit 1017)), (@Value.str (@Str.ofString "/claim/cut.py") (nat_lit 1018)), (@Value.int (.ofNat (nat_lit 325)) (nat_lit 0)), (@Value.int (.ofNat (nat_lit 1)) (nat_lit 0)), (@Value.int (.ofNat (nat_lit 0)) (nat_lit 0)), (@Value.int (.ofNat (nat_lit 0)) (nat_lit 0)), (@Value.int (.ofNat (nat_lit 3)) (nat_lit 0)), (@Value.ref (nat_lit 627)), (@Value.bool true), (@Value.int (.ofNat (nat_lit 181)) (nat_lit 0)), (@Value.ref (nat_lit 628)), Value.none, (@Value.ref (nat_lit 629)), (@Value.ref (nat_lit 630)), (@Value.ref (nat_lit 631)), (@Value.int (.ofNat (nat_lit 1020)) (nat_lit 0)), (@Value.int (.ofNat (nat_lit 325)) (nat_lit 0)), (@Value.str (@Str.ofString "/claim/cut.py") (nat_lit 1021))])) (.mk []))
def o633 (P : Params) : Obj := (@Obj.mk (@Value.type "function") none (@Data.func (@FuncData.mk (@Str.ofString "rankings") (@Str.ofString "House.rankings") (defArgs (inClass (topS 62) 2)) (@FuncBody.stmts (defBody (inClass (topS 62) 2))) (defScope (inClass (topS 62) 4)) (nat_lit 3) [] Value.none Value.none Value.none (@Value.str (@Str.ofString "menuhouses.houses") (nat_lit 942)) none (@Value.ref (nat_lit 632)) Value.none (nat_lit 0))) (.mk []))
def o634 (P : Params) : Obj := (@Obj.mk (@Value.type "property") none (@Data.fields (.mk [(@Value.ref (nat_lit 633)), Value.none, Value.none, Value.none, (@Value.str (@Str.ofString "rankings") (nat_lit 1023)), (@Value.bool false)])) (.mk []))
def o635 (P : Params) : Obj := (@Obj.mk (@Value.type "tuple") none (@Data.seq (.mk []) (nat_lit 0)) (.mk []))
def o636 (P : Params) : Obj := (@Obj.mk Value.none none (@Data.fields (.mk [])) (.mk []))
def o637 (P : Params) : Obj := (@Obj.mk (@Value.type "tuple") none (@Data.seq (.mk [(@Value.str (@Str.ofString "self") (nat_lit 1027))]) (nat_lit 0)) (.mk []))
def o638 (P : Params) : Obj := (@Obj.mk (@Value.type "tuple") none (@Data.seq (.mk []) (nat_lit 0)) (.mk []))
def o639 (P : Params) : Obj := (@Obj.mk Value.none none (@Data.func (@FuncData.mk (@Str.ofString "things") (@Str.ofString "House.things") (defArgs (inClass (topS 62) 3)) (@FuncBody.stmts (defBody (inClass (topS 62) 3))) (defScope (inClass (topS 62) 4)) (nat_lit 0) [] Value.none Value.none Value.none Value.none none Value.none Value.none (nat_lit 0))) (.mk []))
def o640 (P : Params) : Obj := (@Obj.mk (@Value.type "code") none (@Data.fields (.mk [(@Value.str (@Str.ofString "things") (nat_lit 1024)), (@Value.str (@Str.ofString "House.things") (nat_lit 1025)), (@Value.str (@Str.ofString "/claim/cut.py") (nat_lit 1026)), (@Value.int (.ofNat (nat_lit 329)) (nat_lit 0)), (@Value.int (.ofNat (nat_lit 1)) (nat_lit 0)), (@Value.int (.ofNat (nat_lit 0)) (nat_lit 0)), (@Value.int (.ofNat (nat_lit 0)) (nat_lit 0)), (@Value.int (.ofNat (nat_lit 3)) (nat_lit 0)), (@Value.ref (nat_lit 635)), (@Value.bool true), (@Value.int (.ofNat (nat_lit 181)) (nat_lit 0)), (@Value.ref (nat_lit 636)), Value.none, (@Value.ref (nat_lit 637)), (@Value.ref (nat_lit 638)), (@Value.ref (nat_lit 639)), (@Value.int (.ofNat (nat_lit 1028)) (nat_lit 0)), (@Value.int (.ofNat (nat_lit 329)) (nat_lit 0)), (@Value.str (@Str.ofString "/claim/cut.py") (nat_lit 1029))])) (.mk []))
def o641 (P : Params) : Obj := (@Obj.mk (@Value.type "function") none (@Data.func (@FuncData.mk (@Str.ofString "things") (@Str.ofString "House.things") (defArgs (inClass (topS 62) 3)) (@FuncBody.stmts (defBody (inClass (topS 62) 3))) (defScope (inClass (topS 62) 4)) (nat_lit 3) [] Value.none Value.none Value.none (@Value.str (@Str.ofString "menuhouses.houses") (nat_lit 942)) none (@Value.ref (nat_lit 640)) Value.none (nat_lit 0))) (.mk []))
def o642 (P : Params) : Obj := (@Obj.mk (@Value.type "property") none (@Data.fields (.mk [(@Value.ref (nat_lit 641)), Value.none, Value.none, Value.none, (@Value.str (@Str.ofString "things") (nat_lit 1031)), (@Value.bool false)])) (.mk []))
def o643 (P : Params) : Obj := (@Obj.mk (@Value.type "tuple") none (@Data.seq (.mk []) (nat_lit 0)) (.mk []))
def o644 (P : Params) : Obj := (@Obj.mk Value.none none (@Data.fields (.mk [])) (.mk []))
def o645 (P : Params) : Obj := (@Obj.mk (@Value.type "tuple") none (@Data.seq (.mk [(@Value.str (@Str.ofString "self") (nat_lit 1035))]) (nat_lit 0)) (.mk []))
def o646 (P : Params) : Obj := (@Obj.mk (@Value.type "tuple") none (@Data.seq (.mk []) (nat_lit 0)) (.mk []))
def o647 (P : Params) : Obj := (@Obj.mk Value.none none (@Data.func (@FuncData.mk (@Str.ofString "crest_masks") (@Str.ofString "House.crest_masks") (defArgs (inClass (topS 62) 4)) (@FuncBody.stmts (defBody (inClass (topS 62) 4))) (defScope (inClass (topS 62) 4)) (nat_lit 0) [] Value.none Value.none Value.none Value.none none Value.none Value.none (nat_lit 0))) (.mk []))
def o648 (P : Params) : Obj := (@Obj.mk (@Value.type "code") none (@Data.fields (.mk [(@Value.str (@Str.ofString "crest_masks") (nat_lit 1032)), (@Value.str (@Str.ofString "House.crest_masks") (nat_lit 1033)), (@Value.str (@Str.ofString "/claim/cut.py") (nat_lit 1034)), (@Value.int (.ofNat (nat_lit 333)) (nat_lit 0)), (@Value.int (.ofNat (nat_lit 1)) (nat_lit 0)), (@Value.int (.ofNat (nat_lit 0)) (nat_lit 0)), (@Value.int (.ofNat (nat_lit 0)) (nat_lit 0)), (@Value.int (.ofNat (nat_lit 3)) (nat_lit 0)), (@Value.ref (nat_lit 643)), (@Value.bool true), (@Value.int (.ofNat (nat_lit 181)) (nat_lit 0)), (@Value.ref (nat_lit 644)), Value.none, (@Value.ref (nat_lit 645)), (@Value.ref (nat_lit 646)), (@Value.ref (nat_lit 647)), (@Value.int (.ofNat (nat_lit 1036)) (nat_lit 0)), (@Value.int (.ofNat (nat_lit 333)) (nat_lit 0)), (@Value.str (@Str.ofString "/claim/cut.py") (nat_lit 1037))])) (.mk []))
def o649 (P : Params) : Obj := (@Obj.mk (@Value.type "function") none (@Data.func (@FuncData.mk (@Str.ofString "crest_masks") (@Str.ofString "House.crest_masks") (defArgs (inClass (topS 62) 4)) (@FuncBody.stmts (defBody (inClass (topS 62) 4))) (defScope (inClass (topS 62) 4)) (nat_lit 3) [] Value.none Value.none Value.none (@Value.str (@Str.ofString "menuhouses.houses") (nat_lit 942)) none (@Value.ref (nat_lit 648)) Value.none (nat_lit 0))) (.mk []))
def o650 (P : Params) : Obj := (@Obj.mk (@Value.type "property") none (@Data.fields (.mk [(@Value.ref (nat_lit 649)), Value.none, Value.none, Value.none, (@Value.str (@Str.ofString "crest_masks") (nat_lit 1039)), (@Value.bool false)])) (.mk []))
def o651 (P : Params) : Obj := (@Obj.mk (@Value.type "tuple") none (@Data.seq (.mk []) (nat_lit 0)) (.mk []))
def o652 (P : Params) : Obj := (@Obj.mk Value.none none (@Data.fields (.mk [])) (.mk []))
def o653 (P : Params) : Obj := (@Obj.mk (@Value.type "tuple") none (@Data.seq (.mk [(@Value.str (@Str.ofString "self") (nat_lit 1043)), (@Value.str (@Str.ofString "menu") (nat_lit 1044)), (@Value.str (@Str.ofString "taken") (nat_lit 1045))]) (nat_lit 0)) (.mk []))
def o654 (P : Params) : Obj := (@Obj.mk (@Value.type "tuple") none (@Data.seq (.mk []) (nat_lit 0)) (.mk []))
def o655 (P : Params) : Obj := (@Obj.mk Value.none none (@Data.func (@FuncData.mk (@Str.ofString "__call__") (@Str.ofString "House.__call__") (defArgs (inClass (topS 62) 5)) (@FuncBody.stmts (defBody (inClass (topS 62) 5))) (defScope (inClass (topS 62) 5)) (nat_lit 0) [] Value.none Value.none Value.none Value.none none Value.none Value.none (nat_lit 0))) (.mk []))
def o656 (P : Params) : Obj := (@Obj.mk (@Value.type "code") none (@Data.fields (.mk [(@Value.str (@Str.ofString "__call__") (nat_lit 1040)), (@Value.str (@Str.ofString "House.__call__") (nat_lit 1041)), (@Value.str (@Str.ofString "/claim/cut.py") (nat_lit 1042)), (@Value.int (.ofNat (nat_lit 337)) (nat_lit 0)), (@Value.int (.ofNat (nat_lit 2)) (nat_lit 0)), (@Value.int (.ofNat (nat_lit 0)) (nat_lit 0)), (@Value.int (.ofNat (nat_lit 0)) (nat_lit 0)), (@Value.int (.ofNat (nat_lit 3)) (nat_lit 0)), (@Value.ref (nat_lit 651)), (@Value.bool true), (@Value.int (.ofNat (nat_lit 181)) (nat_lit 0)), (@Value.ref (nat_lit 652)), Value.none, (@Value.ref (nat_lit 653)), (@Value.ref (nat_lit 654)), (@Value.ref (nat_lit 655)), (@Value.int (.ofNat (nat_lit 1046)) (nat_lit 0)), (@Value.int (.ofNat (nat_lit 337)) (nat_lit 0)), (@Value.str (@Str.ofString "/claim/cut.py") (nat_lit 1047))])) (.mk []))
def o657 (P : Params) : Obj := (@Obj.mk (@Value.type "function") none (@Data.func (@FuncData.mk (@Str.ofString "__call__") (@Str.ofString "House.__call__") (defArgs (inClass (topS 62) 5)) (@FuncBody.stmts (defBody (inClass (topS 62) 5))) (defScope (inClass (topS 62) 5)) (nat_lit 3) [] Value.none Value.none Value.none (@Value.str (@Str.ofString "menuhouses.houses") (nat_lit 942)) none (@Value.ref (nat_lit 656)) Value.none (nat_lit 0))) (.mk []))
def o658 (P : Params) : Obj := (@Obj.mk (@Value.type "tuple") none (@Data.seq (.mk []) (nat_lit 0)) (.mk []))
def o659 (P : Params) : Obj := (@Obj.mk Value.none none (@Data.fields (.mk [])) (.mk []))
def o660 (P : Params) : Obj := (@Obj.mk (@Value.type "tuple") none (@Data.seq (.mk [(@Value.str (@Str.ofString "self") (nat_lit 1052)), (@Value.str (@Str.ofString "other") (nat_lit 1053))]) (nat_lit 0)) (.mk []))
def o661 (P : Params) : Obj := (@Obj.mk (@Value.type "tuple") none (@Data.seq (.mk []) (nat_lit 0)) (.mk []))
def o662 (P : Params) : Obj := (@Obj.mk Value.none none (@Data.func (@FuncData.mk (@Str.ofString "within") (@Str.ofString "House.within") (defArgs (inClass (topS 62) 6)) (@FuncBody.stmts (defBody (inClass (topS 62) 6))) (defScope (inClass (topS 62) 6)) (nat_lit 0) [] Value.none Value.none Value.none Value.none none Value.none Value.none (nat_lit 0))) (.mk []))
def o663 (P : Params) : Obj := (@Obj.mk (@Value.type "code") none (@Data.fields (.mk [(@Value.str (@Str.ofString "within") (nat_lit 1049)), (@Value.str (@Str.ofString "House.within") (nat_lit 1050)), (@Value.str (@Str.ofString "/claim/cut.py") (nat_lit 1051)), (@Value.int (.ofNat (nat_lit 342)) (nat_lit 0)), (@Value.int (.ofNat (nat_lit 2)) (nat_lit 0)), (@Value.int (.ofNat (nat_lit 0)) (nat_lit 0)), (@Value.int (.ofNat (nat_lit 0)) (nat_lit 0)), (@Value.int (.ofNat (nat_lit 3)) (nat_lit 0)), (@Value.ref (nat_lit 658)), (@Value.bool true), (@Value.int (.ofNat (nat_lit 181)) (nat_lit 0)), (@Value.ref (nat_lit 659)), Value.none, (@Value.ref (nat_lit 660)), (@Value.ref (nat_lit 661)), (@Value.ref (nat_lit 662)), (@Value.int (.ofNat (nat_lit 1054)) (nat_lit 0)), (@Value.int (.ofNat (nat_lit 342)) (nat_lit 0)), (@Value.str (@Str.ofString "/claim/cut.py") (nat_lit 1055))])) (.mk []))
def o664 (P : Params) : Obj := (@Obj.mk (@Value.type "function") none (@Data.func (@FuncData.mk (@Str.ofString "within") (@Str.ofString "House.within") (defArgs (inClass (topS 62) 6)) (@FuncBody.stmts (defBody (inClass (topS 62) 6))) (defScope (inClass (topS 62) 6)) (nat_lit 3) [] Value.none Value.none Value.none (@Value.str (@Str.ofString "menuhouses.houses") (nat_lit 942)) none (@Value.ref (nat_lit 663)) Value.none (nat_lit 0))) (.mk []))
def o665 (P : Params) : Obj := (@Obj.mk (@Value.type "tuple") none (@Data.seq (.mk []) (nat_lit 0)) (.mk []))
def o666 (P : Params) : Obj := (@Obj.mk Value.none none (@Data.fields (.mk [])) (.mk []))
def o667 (P : Params) : Obj := (@Obj.mk Value.none none (@Data.func (@FuncData.mk (@Str.ofString "without") (@Str.ofString "House.without") (defArgs (inClass (topS 62) 7)) (@FuncBody.stmts (defBody (inClass (topS 62) 7))) (defScope (inClass (topS 62) 7)) (nat_lit 0) [] Value.none Value.none Value.none Value.none none Value.none Value.none (nat_lit 0))) (.mk []))
def o668 (P : Params) : Obj := (@Obj.mk (@Value.type "code") none (@Data.fields (.mk [(@Value.str (@Str.ofString "without") (nat_lit 1057)), (@Value.str (@Str.ofString "House.without") (nat_lit 1058)), (@Value.str (@Str.ofString "/claim/cut.py") (nat_lit 1059)), (@Value.int (.ofNat (nat_lit 345)) (nat_lit 0)), (@Value.int (.ofNat (nat_lit 1)) (nat_lit 0)), (@Value.int (.ofNat (nat_lit 0)) (nat_lit 0)), (@Value.int (.ofNat (nat_lit 0)) (nat_lit 0)), (@Value.int (.ofNat (nat_lit 7)) (nat_lit 0)), (@Value.ref (nat_lit 665)), (@Value.bool true), (@Value.int (.ofNat (nat_lit 181)) (nat_lit 0)), (@Value.ref (nat_lit 666)), Value.none, Value.none, Value.none, (@Value.ref (nat_lit 667)), (@Value.int (.ofNat (nat_lit 1060)) (nat_lit 0)), (@Value.int (.ofNat (nat_lit 345)) (nat_lit 0)), (@Value.str (@Str.ofString "/claim/cut.py") (nat_lit 1061))])) (.mk []))
def o669 (P : Params) : Obj := (@Obj.mk (@Value.type "function") none (@Data.func (@FuncData.mk (@Str.ofString "without") (@Str.ofString "House.without") (defArgs (inClass (topS 62) 7)) (@FuncBody.stmts (defBody (inClass (topS 62) 7))) (defScope (inClass (topS 62) 7)) (nat_lit 3) [] Value.none Value.none Value.none (@Value.str (@Str.ofString "menuhouses.houses") (nat_lit 942)) none (@Value.ref (nat_lit 668)) Value.none (nat_lit 0))) (.mk []))
def o670 (P : Params) : Obj := (@Obj.mk (@Value.type "tuple") none (@Data.seq (.mk []) (nat_lit 0)) (.mk []))
def o671 (P : Params) : Obj := (@Obj.mk Value.none none (@Data.fields (.mk [])) (.mk []))
def o672 (P : Params) : Obj := (@Obj.mk Value.none none (@Data.func (@FuncData.mk (@Str.ofString "table") (@Str.ofString "House.table") (defArgs (inClass (topS 62) 8)) (@FuncBody.stmts (defBody (inClass (topS 62) 8))) (defScope (inClass (topS 62) 8)) (nat_lit 0) [] Value.none Value.none Value.none Value.none none Value.none Value.none (nat_lit 0))) (.mk []))
def o673 (P : Params) : Obj := (@Obj.mk (@Value.type "code") none (@Data.fields (.mk [(@Value.str (@Str.ofString "table") (nat_lit 1063)), (@Value.str (@Str.ofString "House.table") (nat_lit 1064)), (@Value.str (@Str.ofString "/claim/cut.py") (nat_lit 1065)), (@Value.int (.ofNat (nat_lit 349)) (nat_lit 0)), (@Value.int (.ofNat (nat_lit 1)) (nat_lit 0)), (@Value.int (.ofNat (nat_lit 0)) (nat_lit 0)), (@Value.int (.ofNat (nat_lit 0)) (nat_lit 0)), (@Value.int (.ofNat (nat_lit 3)) (nat_lit 0)), (@Value.ref (nat_lit 670)), (@Value.bool true), (@Value.int (.ofNat (nat_lit 181)) (nat_lit 0)), (@Value.ref (nat_lit 671)), Value.none, Value.none, Value.none, (@Value.ref (nat_lit 672)), (@Value.int (.ofNat (nat_lit 1066)) (nat_lit 0)), (@Value.int (.ofNat (nat_lit 349)) (nat_lit 0)), (@Value.str (@Str.ofString "/claim/cut.py") (nat_lit 1067))])) (.mk []))
def o674 (P : Params) : Obj := (@Obj.mk (@Value.type "function") none (@Data.func (@FuncData.mk (@Str.ofString "table") (@Str.ofString "House.table") (defArgs (inClass (topS 62) 8)) (@FuncBody.stmts (defBody (inClass (topS 62) 8))) (defScope (inClass (topS 62) 8)) (nat_lit 3) [] Value.none Value.none Value.none (@Value.str (@Str.ofString "menuhouses.houses") (nat_lit 942)) none (@Value.ref (nat_lit 673)) Value.none (nat_lit 0))) (.mk []))
def o675 (P : Params) : Obj := (@Obj.mk (@Value.type "tuple") none (@Data.seq (.mk []) (nat_lit 0)) (.mk []))
def o676 (P : Params) : Obj := (@Obj.mk Value.none none (@Data.fields (.mk [])) (.mk []))
def o677 (P : Params) : Obj := (@Obj.mk (@Value.type "tuple") none (@Data.seq (.mk [(@Value.str (@Str.ofString "self") (nat_lit 1072)), (@Value.str (@Str.ofString "other") (nat_lit 1073)), (@Value.str (@Str.ofString "rankings") (nat_lit 1074))]) (nat_lit 0)) (.mk []))
def o678 (P : Params) : Obj := (@Obj.mk (@Value.type "tuple") none (@Data.seq (.mk []) (nat_lit 0)) (.mk []))
def o679 (P : Params) : Obj := (@Obj.mk Value.none none (@Data.func (@FuncData.mk (@Str.ofString "__or__") (@Str.ofString "House.__or__") (defArgs (inClass (topS 62) 9)) (@FuncBody.stmts (defBody (inClass (topS 62) 9))) (defScope (inClass (topS 62) 9)) (nat_lit 0) [] Value.none Value.none Value.none Value.none none Value.none Value.none (nat_lit 0))) (.mk []))
def o680 (P : Params) : Obj := (@Obj.mk (@Value.type "code") none (@Data.fields (.mk [(@Value.str (@Str.ofString "__or__") (nat_lit 1069)), (@Value.str (@Str.ofString "House.__or__") (nat_lit 1070)), (@Value.str (@Str.ofString "/claim/cut.py") (nat_lit 1071)), (@Value.int (.ofNat (nat_lit 354)) (nat_lit 0)), (@Value.int (.ofNat (nat_lit 2)) (nat_lit 0)), (@Value.int (.ofNat (nat_lit 0)) (nat_lit 0)), (@Value.int (.ofNat (nat_lit 0)) (nat_lit 0)), (@Value.int (.ofNat (nat_lit 3)) (nat_lit 0)), (@Value.ref (nat_lit 675)), (@Value.bool true), (@Value.int (.ofNat (nat_lit 181)) (nat_lit 0)), (@Value.ref (nat_lit 676)), Value.none, (@Value.ref (nat_lit 677)), (@Value.ref (nat_lit 678)), (@Value.ref (nat_lit 679)), (@Value.int (.ofNat (nat_lit 1075)) (nat_lit 0)), (@Value.int (.ofNat (nat_lit 354)) (nat_lit 0)), (@Value.str (@Str.ofString "/claim/cut.py") (nat_lit 1076))])) (.mk []))
def o681 (P : Params) : Obj := (@Obj.mk (@Value.type "function") none (@Data.func (@FuncData.mk (@Str.ofString "__or__") (@Str.ofString "House.__or__") (defArgs (inClass (topS 62) 9)) (@FuncBody.stmts (defBody (inClass (topS 62) 9))) (defScope (inClass (topS 62) 9)) (nat_lit 3) [] Value.none Value.none Value.none (@Value.str (@Str.ofString "menuhouses.houses") (nat_lit 942)) none (@Value.ref (nat_lit 680)) Value.none (nat_lit 0))) (.mk []))
def o682 (P : Params) : Obj := (@Obj.mk (@Value.type "tuple") none (@Data.seq (.mk []) (nat_lit 0)) (.mk []))
def o683 (P : Params) : Obj := (@Obj.mk Value.none none (@Data.fields (.mk [])) (.mk []))
def o684 (P : Params) : Obj := (@Obj.mk (@Value.type "tuple") none (@Data.seq (.mk [(@Value.str (@Str.ofString "self") (nat_lit 1081)), (@Value.str (@Str.ofString "other") (nat_lit 1082)), (@Value.str (@Str.ofString "steps") (nat_lit 1083)), (@Value.str (@Str.ofString "foreign") (nat_lit 1084))]) (nat_lit 0)) (.mk []))
def o685 (P : Params) : Obj := (@Obj.mk (@Value.type "tuple") none (@Data.seq (.mk []) (nat_lit 0)) (.mk []))
def o686 (P : Params) : Obj := (@Obj.mk Value.none none (@Data.func (@FuncData.mk (@Str.ofString "__and__") (@Str.ofString "House.__and__") (defArgs (inClass (topS 62) 10)) (@FuncBody.stmts (defBody (inClass (topS 62) 10))) (defScope (inClass (topS 62) 10)) (nat_lit 0) [] Value.none Value.none Value.none Value.none none Value.none Value.none (nat_lit 0))) (.mk []))
def o687 (P : Params) : Obj := (@Obj.mk (@Value.type "code") none (@Data.fields (.mk [(@Value.str (@Str.ofString "__and__") (nat_lit 1078)), (@Value.str (@Str.ofString "House.__and__") (nat_lit 1079)), (@Value.str (@Str.ofString "/claim/cut.py") (nat_lit 1080)), (@Value.int (.ofNat (nat_lit 359)) (nat_lit 0)), (@Value.int (.ofNat (nat_lit 2)) (nat_lit 0)), (@Value.int (.ofNat (nat_lit 0)) (nat_lit 0)), (@Value.int (.ofNat (nat_lit 0)) (nat_lit 0)), (@Value.int (.ofNat (nat_lit 3)) (nat_lit 0)), (@Value.ref (nat_lit 682)), (@Value.bool true), (@Value.int (.ofNat (nat_lit 181)) (nat_lit 0)), (@Value.ref (nat_lit 683)), Value.none, (@Value.ref (nat_lit 684)), (@Value.ref (nat_lit 685)), (@Value.ref (nat_lit 686)), (@Value.int (.ofNat (nat_lit 1085)) (nat_lit 0)), (@Value.int (.ofNat (nat_lit 359)) (nat_lit 0)), (@Value.str (@Str.ofString "/claim/cut.py") (nat_lit 1086))])) (.mk []))
def o688 (P : Params) : Obj := (@Obj.mk (@Value.type "function") none (@Data.func (@FuncData.mk (@Str.ofString "__and__") (@Str.ofString "House.__and__") (defArgs (inClass (topS 62) 10)) (@FuncBody.stmts (defBody (inClass (topS 62) 10))) (defScope (inClass (topS 62) 10)) (nat_lit 3) [] Value.none Value.none Value.none (@Value.str (@Str.ofString "menuhouses.houses") (nat_lit 942)) none (@Value.ref (nat_lit 687)) Value.none (nat_lit 0))) (.mk []))
def o689 (P : Params) : Obj := (@Obj.mk (@Value.type "tuple") none (@Data.seq (.mk []) (nat_lit 0)) (.mk []))
def o690 (P : Params) : Obj := (@Obj.mk Value.none none (@Data.fields (.mk [])) (.mk []))
def o691 (P : Params) : Obj := (@Obj.mk Value.none none (@Data.func (@FuncData.mk (@Str.ofString "__contains__") (@Str.ofString "House.__contains__") (defArgs (inClass (topS 62) 11)) (@FuncBody.stmts (defBody (inClass (topS 62) 11))) (defScope (inClass (topS 62) 11)) (nat_lit 0) [] Value.none Value.none Value.none Value.none none Value.none Value.none (nat_lit 0))) (.mk []))
def o692 (P : Params) : Obj := (@Obj.mk (@Value.type "code") none (@Data.fields (.mk [(@Value.str (@Str.ofString "__contains__") (nat_lit 1088)), (@Value.str (@Str.ofString "House.__contains__") (nat_lit 1089)), (@Value.str (@Str.ofString "/claim/cut.py") (nat_lit 1090)), (@Value.int (.ofNat (nat_lit 367)) (nat_lit 0)), (@Value.int (.ofNat (nat_lit 2)) (nat_lit 0)), (@Value.int (.ofNat (nat_lit 0)) (nat_lit 0)), (@Value.int (.ofNat (nat_lit 0)) (nat_lit 0)), (@Value.int (.ofNat (nat_lit 3)) (nat_lit 0)), (@Value.ref (nat_lit 689)), (@Value.bool true), (@Value.int (.ofNat (nat_lit 181)) (nat_lit 0)), (@Value.ref (nat_lit 690)), Value.none, Value.none, Value.none, (@Value.ref (nat_lit 691)), (@Value.int (.ofNat (nat_lit 1091)) (nat_lit 0)), (@Value.int (.ofNat (nat_lit 367)) (nat_lit 0)), (@Value.str (@Str.ofString "/claim/cut.py") (nat_lit 1092))])) (.mk []))
def o693 (P : Params) : Obj := (@Obj.mk (@Value.type "function") none (@Data.func (@FuncData.mk (@Str.ofString "__contains__") (@Str.ofString "House.__contains__") (defArgs (inClass (topS 62) 11)) (@FuncBody.stmts (defBody (inClass (topS 62) 11))) (defScope (inClass (topS 62) 11)) (nat_lit 3) [] Value.none Value.none Value.none (@Value.str (@Str.ofString "menuhouses.houses") (nat_lit 942)) none (@Value.ref (nat_lit 692)) Value.none (nat_lit 0))) (.mk []))
def o694 (P : Params) : Obj := (@Obj.mk (@Value.type "tuple") none (@Data.seq (.mk []) (nat_lit 0)) (.mk []))
def o695 (P : Params) : Obj := (@Obj.mk Value.none none (@Data.fields (.mk [])) (.mk []))
def o696 (P : Params) : Obj := (@Obj.mk (@Value.type "tuple") none (@Data.seq (.mk [(@Value.str (@Str.ofString "self") (nat_lit 1097))]) (nat_lit 0)) (.mk []))
def o697 (P : Params) : Obj := (@Obj.mk (@Value.type "tuple") none (@Data.seq (.mk []) (nat_lit 0)) (.mk []))
def o698 (P : Params) : Obj := (@Obj.mk Value.none none (@Data.func (@FuncData.mk (@Str.ofString "__len__") (@Str.ofString "House.__len__") (defArgs (inClass (topS 62) 12)) (@FuncBody.stmts (defBody (inClass (topS 62) 12))) (defScope (inClass (topS 62) 14)) (nat_lit 0) [] Value.none Value.none Value.none Value.none none Value.none Value.none (nat_lit 0))) (.mk []))
def o699 (P : Params) : Obj := (@Obj.mk (@Value.type "code") none (@Data.fields (.mk [(@Value.str (@Str.ofString "__len__") (nat_lit 1094)), (@Value.str (@Str.ofString "House.__len__") (nat_lit 1095)), (@Value.str (@Str.ofString "/claim/cut.py") (nat_lit 1096)), (@Value.int (.ofNat (nat_lit 373)) (nat_lit 0)), (@Value.int (.ofNat (nat_lit 1)) (nat_lit 0)), (@Value.int (.ofNat (nat_lit 0)) (nat_lit 0)), (@Value.int (.ofNat (nat_lit 0)) (nat_lit 0)), (@Value.int (.ofNat (nat_lit 3)) (nat_lit 0)), (@Value.ref (nat_lit 694)), (@Value.bool true), (@Value.int (.ofNat (nat_lit 181)) (nat_lit 0)), (@Value.ref (nat_lit 695)), Value.none, (@Value.ref (nat_lit 696)), (@Value.ref (nat_lit 697)), (@Value.ref (nat_lit 698)), (@Value.int (.ofNat (nat_lit 1098)) (nat_lit 0)), (@Value.int (.ofNat (nat_lit 373)) (nat_lit 0)), (@Value.str (@Str.ofString "/claim/cut.py") (nat_lit 1099))])) (.mk []))
def o700 (P : Params) : Obj := (@Obj.mk (@Value.type "function") none (@Data.func (@FuncData.mk (@Str.ofString "__len__") (@Str.ofString "House.__len__") (defArgs (inClass (topS 62) 12)) (@FuncBody.stmts (defBody (inClass (topS 62) 12))) (defScope (inClass (topS 62) 14)) (nat_lit 3) [] Value.none Value.none Value.none (@Value.str (@Str.ofString "menuhouses.houses") (nat_lit 942)) none (@Value.ref (nat_lit 699)) Value.none (nat_lit 0))) (.mk []))
def o701 (P : Params) : Obj := (@Obj.mk (@Value.type "tuple") none (@Data.seq (.mk []) (nat_lit 0)) (.mk []))
def o702 (P : Params) : Obj := (@Obj.mk Value.none none (@Data.fields (.mk [])) (.mk []))
def o703 (P : Params) : Obj := (@Obj.mk Value.none none (@Data.func (@FuncData.mk (@Str.ofString "__str__") (@Str.ofString "House.__str__") (defArgs (inClass (topS 62) 13)) (@FuncBody.stmts (defBody (inClass (topS 62) 13))) (defScope (inClass (topS 62) 13)) (nat_lit 0) [] Value.none Value.none Value.none Value.none none Value.none Value.none (nat_lit 0))) (.mk []))
def o704 (P : Params) : Obj := (@Obj.mk (@Value.type "code") none (@Data.fields (.mk [(@Value.str (@Str.ofString "__str__") (nat_lit 1101)), (@Value.str (@Str.ofString "House.__str__") (nat_lit 1102)), (@Value.str (@Str.ofString "/claim/cut.py") (nat_lit 1103)), (@Value.int (.ofNat (nat_lit 376)) (nat_lit 0)), (@Value.int (.ofNat (nat_lit 1)) (nat_lit 0)), (@Value.int (.ofNat (nat_lit 0)) (nat_lit 0)), (@Value.int (.ofNat (nat_lit 0)) (nat_lit 0)), (@Value.int (.ofNat (nat_lit 3)) (nat_lit 0)), (@Value.ref (nat_lit 701)), (@Value.bool true), (@Value.int (.ofNat (nat_lit 181)) (nat_lit 0)), (@Value.ref (nat_lit 702)), Value.none, Value.none, Value.none, (@Value.ref (nat_lit 703)), (@Value.int (.ofNat (nat_lit 1104)) (nat_lit 0)), (@Value.int (.ofNat (nat_lit 376)) (nat_lit 0)), (@Value.str (@Str.ofString "/claim/cut.py") (nat_lit 1105))])) (.mk []))
def o705 (P : Params) : Obj := (@Obj.mk (@Value.type "function") none (@Data.func (@FuncData.mk (@Str.ofString "__str__") (@Str.ofString "House.__str__") (defArgs (inClass (topS 62) 13)) (@FuncBody.stmts (defBody (inClass (topS 62) 13))) (defScope (inClass (topS 62) 13)) (nat_lit 3) [] Value.none Value.none Value.none (@Value.str (@Str.ofString "menuhouses.houses") (nat_lit 942)) none (@Value.ref (nat_lit 704)) Value.none (nat_lit 0))) (.mk []))
def o706 (P : Params) : Obj := (@Obj.mk (@Value.type "tuple") none (@Data.seq (.mk []) (nat_lit 0)) (.mk []))
def o707 (P : Params) : Obj := (@Obj.mk Value.none none (@Data.fields (.mk [])) (.mk []))
def o708 (P : Params) : Obj := (@Obj.mk (@Value.type "tuple") none (@Data.seq (.mk [(@Value.str (@Str.ofString "self") (nat_lit 1110))]) (nat_lit 0)) (.mk []))
def o709 (P : Params) : Obj := (@Obj.mk (@Value.type "tuple") none (@Data.seq (.mk []) (nat_lit 0)) (.mk []))
def o710 (P : Params) : Obj := (@Obj.mk Value.none none (@Data.func (@FuncData.mk (@Str.ofString "__repr__") (@Str.ofString "House.__repr__") (defArgs (inClass (topS 62) 14)) (@FuncBody.stmts (defBody (inClass (topS 62) 14))) (defScope (inClass (topS 62) 14)) (nat_lit 0) [] Value.none Value.none Value.none Value.none none Value.none Value.none (nat_lit 0))) (.mk []))
def o711 (P : Params) : Obj := (@Obj.mk (@Value.type "code") none (@Data.fields (.mk [(@Value.str (@Str.ofString "__repr__") (nat_lit 1107)), (@Value.str (@Str.ofString "House.__repr__") (nat_lit 1108)), (@Value.str (@Str.ofString "/claim/cut.py") (nat_lit 1109)), (@Value.int (.ofNat (nat_lit 379)) (nat_lit 0)), (@Value.int (.ofNat (nat_lit 1)) (nat_lit 0)), (@Value.int (.ofNat (nat_lit 0)) (nat_lit 0)), (@Value.int (.ofNat (nat_lit 0)) (nat_lit 0)), (@Value.int (.ofNat (nat_lit 3)) (nat_lit 0)), (@Value.ref (nat_lit 706)), (@Value.bool true), (@Value.int (.ofNat (nat_lit 181)) (nat_lit 0)), (@Value.ref (nat_lit 707)), Value.none, (@Value.ref (nat_lit 708)), (@Value.ref (nat_lit 709)), (@Value.ref (nat_lit 710)), (@Value.int (.ofNat (nat_lit 1111)) (nat_lit 0)), (@Value.int (.ofNat (nat_lit 379)) (nat_lit 0)), (@Value.str (@Str.ofString "/claim/cut.py") (nat_lit 1112))])) (.mk []))
def o712 (P : Params) : Obj := (@Obj.mk (@Value.type "function") none (@Data.func (@FuncData.mk (@Str.ofString "__repr__") (@Str.ofString "House.__repr__") (defArgs (inClass (topS 62) 14)) (@FuncBody.stmts (defBody (inClass (topS 62) 14))) (defScope (inClass (topS 62) 14)) (nat_lit 3) [] Value.none Value.none Value.none (@Value.str (@Str.ofString "menuhouses.houses") (nat_lit 942)) none (@Value.ref (nat_lit 711)) Value.none (nat_lit 0))) (.mk []))
def o713 (P : Params) : Obj := (@Obj.mk (@Value.type "tuple") none (@Data.seq (.mk []) (nat_lit 0)) (.mk []))
def o714 (P : Params) : Obj := (@Obj.mk Value.none none (@Data.fields (.mk [])) (.mk []))
def o715 (P : Params) : Obj := (@Obj.mk (@Value.type "tuple") none (@Data.seq (.mk [(@Value.str (@Str.ofString "self") (nat_lit 1117)), (@Value.str (@Str.ofString "other") (nat_lit 1118))]) (nat_lit 0)) (.mk []))
def o716 (P : Params) : Obj := (@Obj.mk (@Value.type "tuple") none (@Data.seq (.mk []) (nat_lit 0)) (.mk []))
def o717 (P : Params) : Obj := (@Obj.mk Value.none none (@Data.func (@FuncData.mk (@Str.ofString "__eq__") (@Str.ofString "House.__eq__") (defArgs (inClass (topS 62) 15)) (@FuncBody.stmts (defBody (inClass (topS 62) 15))) (defScope (inClass (topS 62) 15)) (nat_lit 0) [] Value.none Value.none Value.none Value.none none Value.none Value.none (nat_lit 0))) (.mk []))
def o718 (P : Params) : Obj := (@Obj.mk (@Value.type "code") none (@Data.fields (.mk [(@Value.str (@Str.ofString "__eq__") (nat_lit 1114)), (@Value.str (@Str.ofString "House.__eq__") (nat_lit 1115)), (@Value.str (@Str.ofString "/claim/cut.py") (nat_lit 1116)), (@Value.int (.ofNat (nat_lit 382)) (nat_lit 0)), (@Value.int (.ofNat (nat_lit 2)) (nat_lit 0)), (@Value.int (.ofNat (nat_lit 0)) (nat_lit 0)), (@Value.int (.ofNat (nat_lit 0)) (nat_lit 0)), (@Value.int (.ofNat (nat_lit 3)) (nat_lit 0)), (@Value.ref (nat_lit 713)), (@Value.bool true), (@Value.int (.ofNat (nat_lit 181)) (nat_lit 0)), (@Value.ref (nat_lit 714)), Value.none, (@Value.ref (nat_lit 715)), (@Value.ref (nat_lit 716)), (@Value.ref (nat_lit 717)), (@Value.int (.ofNat (nat_lit 1119)) (nat_lit 0)), (@Value.int (.ofNat (nat_lit 382)) (nat_lit 0)), (@Value.str (@Str.ofString "/claim/cut.py") (nat_lit 1120))])) (.mk []))
def o719 (P : Params) : Obj := (@Obj.mk (@Value.type "function") none (@Data.func (@FuncData.mk (@Str.ofString "__eq__") (@Str.ofString "House.__eq__") (defArgs (inClass (topS 62) 15)) (@FuncBody.stmts (defBody (inClass (topS 62) 15))) (defScope (inClass (topS 62) 15)) (nat_lit 3) [] Value.none Value.none Value.none (@Value.str (@Str.ofString "menuhouses.houses") (nat_lit 942)) none (@Value.ref (nat_lit 718)) Value.none (nat_lit 0))) (.mk []))
def o720 (P : Params) : Obj := (@Obj.mk (@Value.type "tuple") none (@Data.seq (.mk [(@Value.str (@Str.ofString "_crest_masks") (nat_lit 1122)), (@Value.str (@Str.ofString "_rankings") (nat_lit 1123)), (@Value.str (@Str.ofString "_things") (nat_lit 1124))]) (nat_lit 0)) (.mk []))
def o721 (P : Params) : Obj := (@Obj.mk (@Value.type "dict") none (@Data.dict (.mk [(@DictEntry.mk (@PyData.keyHash P (@Str.ofString "__module__")) (@Value.str (@Str.ofString "__module__") (nat_lit 987)) (@Value.str (@Str.ofString "menuhouses.houses") (nat_lit 942))), (@DictEntry.mk (@PyData.keyHash P (@Str.ofString "__firstlineno__")) (@Value.str (@Str.ofString "__firstlineno__") (nat_lit 991)) (@Value.int (.ofNat (nat_lit 301)) (nat_lit 990))), (@DictEntry.mk (@PyData.keyHash P (@Str.ofString "__init__")) (@Value.str (@Str.ofString "__init__") (nat_lit 997)) (@Value.ref (nat_lit 618))), (@DictEntry.mk (@PyData.keyHash P (@Str.ofString "read")) (@Value.str (@Str.ofString "read") (nat_lit 1015)) (@Value.ref (nat_lit 625))), (@DictEntry.mk (@PyData.keyHash P (@Str.ofString "rankings")) (@Value.str (@Str.ofString "rankings") (nat_lit 1023)) (@Value.ref (nat_lit 634))), (@DictEntry.mk (@PyData.keyHash P (@Str.ofString "things")) (@Value.str (@Str.ofString "things") (nat_lit 1031)) (@Value.ref (nat_lit 642))), (@DictEntry.mk (@PyData.keyHash P (@Str.ofString "crest_masks")) (@Value.str (@Str.ofString "crest_masks") (nat_lit 1039)) (@Value.ref (nat_lit 650))), (@DictEntry.mk (@PyData.keyHash P (@Str.ofString "__call__")) (@Value.str (@Str.ofString "__call__") (nat_lit 1048)) (@Value.ref (nat_lit 657))), (@DictEntry.mk (@PyData.keyHash P (@Str.ofString "within")) (@Value.str (@Str.ofString "within") (nat_lit 1056)) (@Value.ref (nat_lit 664))), (@DictEntry.mk (@PyData.keyHash P (@Str.ofString "without")) (@Value.str (@Str.ofString "without") (nat_lit 1062)) (@Value.ref (nat_lit 669))), (@DictEntry.mk (@PyData.keyHash P (@Str.ofString "table")) (@Value.str (@Str.ofString "table") (nat_lit 1068)) (@Value.ref (nat_lit 674))), (@DictEntry.mk (@PyData.keyHash P (@Str.ofString "__or__")) (@Value.str (@Str.ofString "__or__") (nat_lit 1077)) (@Value.ref (nat_lit 681))), (@DictEntry.mk (@PyData.keyHash P (@Str.ofString "__and__")) (@Value.str (@Str.ofString "__and__") (nat_lit 1087)) (@Value.ref (nat_lit 688))), (@DictEntry.mk (@PyData.keyHash P (@Str.ofString "__contains__")) (@Value.str (@Str.ofString "__contains__") (nat_lit 1093)) (@Value.ref (nat_lit 693))), (@DictEntry.mk (@PyData.keyHash P (@Str.ofString "__len__")) (@Value.str (@Str.ofString "__len__") (nat_lit 1100)) (@Value.ref (nat_lit 700))), (@DictEntry.mk (@PyData.keyHash P (@Str.ofString "__str__")) (@Value.str (@Str.ofString "__str__") (nat_lit 1106)) (@Value.ref (nat_lit 705))), (@DictEntry.mk (@PyData.keyHash P (@Str.ofString "__repr__")) (@Value.str (@Str.ofString "__repr__") (nat_lit 1113)) (@Value.ref (nat_lit 712))), (@DictEntry.mk (@PyData.keyHash P (@Str.ofString "__eq__")) (@Value.str (@Str.ofString "__eq__") (nat_lit 1121)) (@Value.ref (nat_lit 719))), (@DictEntry.mk (@PyData.keyHash P (@Str.ofString "__static_attributes__")) (@Value.str (@Str.ofString "__static_attributes__") (nat_lit 1125)) (@Value.ref (nat_lit 720))), (@DictEntry.mk (@PyData.keyHash P (@Str.ofString "__dict__")) (@Value.str (@Str.ofString "__dict__") (nat_lit 1127)) (@Value.ref (nat_lit 723))), (@DictEntry.mk (@PyData.keyHash P (@Str.ofString "__weakref__")) (@Value.str (@Str.ofString "__weakref__") (nat_lit 1129)) (@Value.ref (nat_lit 724))), (@DictEntry.mk (@PyData.keyHash P (@Str.ofString "__doc__")) (@Value.str (@Str.ofString "__doc__") (nat_lit 1130)) Value.none), (@DictEntry.mk (@PyData.keyHash P (@Str.ofString "__hash__")) (@Value.str (@Str.ofString "__hash__") (nat_lit 1131)) Value.none)]) (nat_lit 5)) (.mk []))
def o722 (P : Params) : Obj := (@Obj.mk (@Value.type "type") none (@Data.cls (@ClassData.mk (@Str.ofString "House") [(@Value.type "object")] [(@Value.ref (nat_lit 722)), (@Value.type "object")] (nat_lit 721) (@Str.ofString "House") true [] [] false none false)) (.mk [none, none, (some (@Value.str (@Str.ofString "House") (nat_lit 980))), (some (@Value.str (@Str.ofString "House") (nat_lit 988))), (some (@Value.builtin "object.__new__")), (some (@Value.bool true))]))
def o723 (P : Params) : Obj := (@Obj.mk (@Value.type "getset_descriptor") none (@Data.fields (.mk [(@Value.str (@Str.ofString "__dict__") (nat_lit 1126)), (@Value.ref (nat_lit 722)), (@Value.builtin "function.__dict__"), (@Value.builtin "function.__dict__#set")])) (.mk []))
def o724 (P : Params) : Obj := (@Obj.mk (@Value.type "getset_descriptor") none (@Data.fields (.mk [(@Value.str (@Str.ofString "__weakref__") (nat_lit 1128)), (@Value.ref (nat_lit 722)), (@Value.builtin "ExceptionGroup.__weakref__"), Value.none])) (.mk []))
def o725 (P : Params) : Obj := (@Obj.mk (@Value.type "super") none (@Data.fields (.mk [(@Value.ref (nat_lit 722)), (@Value.ref (nat_lit 722)), (@Value.ref (nat_lit 722))])) (.mk []))
def o726 (P : Params) : Obj := (@Obj.mk (@Value.type "builtin_function_or_method") none (@Data.fields (.mk [(@Value.builtin "object.__init_subclass__"), (@Value.ref (nat_lit 722))])) (.mk []))
def o727 (P : Params) : Obj := (@Obj.mk (@Value.type "tuple") none (@Data.seq (.mk []) (nat_lit 0)) (.mk []))
def o728 (P : Params) : Obj := (@Obj.mk Value.none none (@Data.fields (.mk [])) (.mk []))
def o729 (P : Params) : Obj := (@Obj.mk (@Value.type "tuple") none (@Data.seq (.mk [(@Value.str (@Str.ofString "_law_script") (nat_lit 1139)), (@Value.str (@Str.ofString "_law_spot") (nat_lit 1140)), (@Value.str (@Str.ofString "_law_cell") (nat_lit 1141)), (@Value.str (@Str.ofString "_law_seed") (nat_lit 1142)), (@Value.str (@Str.ofString "_law_one") (nat_lit 1143))]) (nat_lit 0)) (.mk []))
def o730 (P : Params) : Obj := (@Obj.mk (@Value.type "tuple") none (@Data.seq (.mk []) (nat_lit 0)) (.mk []))
def o731 (P : Params) : Obj := (@Obj.mk Value.none none (@Data.func (@FuncData.mk (@Str.ofString "_law_purse") (@Str.ofString "_law_purse") (defArgs (topS 64)) (@FuncBody.stmts (defBody (topS 64))) (defScope (topS 64)) (nat_lit 0) [] Value.none Value.none Value.none Value.none none Value.none Value.none (nat_lit 0))) (.mk []))
def o732 (P : Params) : Obj := (@Obj.mk (@Value.type "code") none (@Data.fields (.mk [(@Value.str (@Str.ofString "_law_purse") (nat_lit 1136)), (@Value.str (@Str.ofString "_law_purse") (nat_lit 1137)), (@Value.str (@Str.ofString "/claim/cut.py") (nat_lit 1138)), (@Value.int (.ofNat (nat_lit 385)) (nat_lit 0)), (@Value.int (.ofNat (nat_lit 2)) (nat_lit 0)), (@Value.int (.ofNat (nat_lit 0)) (nat_lit 0)), (@Value.int (.ofNat (nat_lit 0)) (nat_lit 0)), (@Value.int (.ofNat (nat_lit 3)) (nat_lit 0)), (@Value.ref (nat_lit 727)), (@Value.bool true), (@Value.int (.ofNat (nat_lit 181)) (nat_lit 0)), (@Value.ref (nat_lit 728)), Value.none, (@Value.ref (nat_lit 729)), (@Value.ref (nat_lit 730)), (@Value.ref (nat_lit 731)), (@Value.int (.ofNat (nat_lit 1144)) (nat_lit 0)), (@Value.int (.ofNat (nat_lit 385)) (nat_lit 0)), (@Value.str (@Str.ofString "/claim/cut.py") (nat_lit 1145))])) (.mk []))
def o733 (P : Params) : Obj := (@Obj.mk (@Value.type "function") none (@Data.func (@FuncData.mk (@Str.ofString "_law_purse") (@Str.ofString "_law_purse") (defArgs (topS 64)) (@FuncBody.stmts (defBody (topS 64))) (defScope (topS 64)) (nat_lit 3) [] Value.none Value.none Value.none (@Value.str (@Str.ofString "law_menuhouses_k20_tables_of_houses") (nat_lit 1134)) none (@Value.ref (nat_lit 732)) Value.none (nat_lit 0))) (.mk []))
def o734 (P : Params) : Obj := (@Obj.mk (@Value.type "tuple") none (@Data.seq (.mk []) (nat_lit 0)) (.mk []))
def o735 (P : Params) : Obj := (@Obj.mk Value.none none (@Data.fields (.mk [])) (.mk []))
def o736 (P : Params) : Obj := (@Obj.mk (@Value.type "tuple") none (@Data.seq (.mk [(@Value.str (@Str.ofString "_law_purse_here") (nat_lit 1150)), (@Value.str (@Str.ofString "_law_many") (nat_lit 1151)), (@Value.str (@Str.ofString "_law_digit") (nat_lit 1152))]) (nat_lit 0)) (.mk []))
def o737 (P : Params) : Obj := (@Obj.mk (@Value.type "tuple") none (@Data.seq (.mk []) (nat_lit 0)) (.mk []))
def o738 (P : Params) : Obj := (@Obj.mk Value.none none (@Data.func (@FuncData.mk (@Str.ofString "_law_draw") (@Str.ofString "_law_draw") (defArgs (topS 65)) (@FuncBody.stmts (defBody (topS 65))) (defScope (topS 65)) (nat_lit 0) [] Value.none Value.none Value.none Value.none none Value.none Value.none (nat_lit 0))) (.mk []))
def o739 (P : Params) : Obj := (@Obj.mk (@Value.type "code") none (@Data.fields (.mk [(@Value.str (@Str.ofString "_law_draw") (nat_lit 1147)), (@Value.str (@Str.ofString "_law_draw") (nat_lit 1148)), (@Value.str (@Str.ofString "/claim/cut.py") (nat_lit 1149)), (@Value.int (.ofNat (nat_lit 391)) (nat_lit 0)), (@Value.int (.ofNat (nat_lit 2)) (nat_lit 0)), (@Value.int (.ofNat (nat_lit 0)) (nat_lit 0)), (@Value.int (.ofNat (nat_lit 0)) (nat_lit 0)), (@Value.int (.ofNat (nat_lit 3)) (nat_lit 0)), (@Value.ref (nat_lit 734)), (@Value.bool true), (@Value.int (.ofNat (nat_lit 181)) (nat_lit 0)), (@Value.ref (nat_lit 735)), Value.none, (@Value.ref (nat_lit 736)), (@Value.ref (nat_lit 737)), (@Value.ref (nat_lit 738)), (@Value.int (.ofNat (nat_lit 1153)) (nat_lit 0)), (@Value.int (.ofNat (nat_lit 391)) (nat_lit 0)), (@Value.str (@Str.ofString "/claim/cut.py") (nat_lit 1154))])) (.mk []))
def o740 (P : Params) : Obj := (@Obj.mk (@Value.type "function") none (@Data.func (@FuncData.mk (@Str.ofString "_law_draw") (@Str.ofString "_law_draw") (defArgs (topS 65)) (@FuncBody.stmts (defBody (topS 65))) (defScope (topS 65)) (nat_lit 3) [] Value.none Value.none Value.none (@Value.str (@Str.ofString "law_menuhouses_k20_tables_of_houses") (nat_lit 1134)) none (@Value.ref (nat_lit 739)) Value.none (nat_lit 0))) (.mk []))
def o741 (P : Params) : Obj := (@Obj.mk (@Value.type "tuple") none (@Data.seq (.mk []) (nat_lit 0)) (.mk []))
def o742 (P : Params) : Obj := (@Obj.mk Value.none none (@Data.fields (.mk [])) (.mk []))
def o743 (P : Params) : Obj := (@Obj.mk (@Value.type "tuple") none (@Data.seq (.mk [(@Value.str (@Str.ofString "_law_purse_here") (nat_lit 1159)), (@Value.str (@Str.ofString "_law_many") (nat_lit 1160)), (@Value.str (@Str.ofString "_law_pool") (nat_lit 1161)), (@Value.str (@Str.ofString "_law_found") (nat_lit 1162)), (@Value.str (@Str.ofString "_law_turn") (nat_lit 1163))]) (nat_lit 0)) (.mk []))
def o744 (P : Params) : Obj := (@Obj.mk (@Value.type "tuple") none (@Data.seq (.mk []) (nat_lit 0)) (.mk []))
def o745 (P : Params) : Obj := (@Obj.mk Value.none none (@Data.func (@FuncData.mk (@Str.ofString "_law_things") (@Str.ofString "_law_things") (defArgs (topS 66)) (@FuncBody.stmts (defBody (topS 66))) (defScope (topS 66)) (nat_lit 0) [] Value.none Value.none Value.none Value.none none Value.none Value.none (nat_lit 0))) (.mk []))
def o746 (P : Params) : Obj := (@Obj.mk (@Value.type "code") none (@Data.fields (.mk [(@Value.str (@Str.ofString "_law_things") (nat_lit 1156)), (@Value.str (@Str.ofString "_law_things") (nat_lit 1157)), (@Value.str (@Str.ofString "/claim/cut.py") (nat_lit 1158)), (@Value.int (.ofNat (nat_lit 397)) (nat_lit 0)), (@Value.int (.ofNat (nat_lit 2)) (nat_lit 0)), (@Value.int (.ofNat (nat_lit 0)) (nat_lit 0)), (@Value.int (.ofNat (nat_lit 0)) (nat_lit 0)), (@Value.int (.ofNat (nat_lit 3)) (nat_lit 0)), (@Value.ref (nat_lit 741)), (@Value.bool true), (@Value.int (.ofNat (nat_lit 181)) (nat_lit 0)), (@Value.ref (nat_lit 742)), Value.none, (@Value.ref (nat_lit 743)), (@Value.ref (nat_lit 744)), (@Value.ref (nat_lit 745)), (@Value.int (.ofNat (nat_lit 1164)) (nat_lit 0)), (@Value.int (.ofNat (nat_lit 397)) (nat_lit 0)), (@Value.str (@Str.ofString "/claim/cut.py") (nat_lit 1165))])) (.mk []))
def o747 (P : Params) : Obj := (@Obj.mk (@Value.type "function") none (@Data.func (@FuncData.mk (@Str.ofString "_law_things") (@Str.ofString "_law_things") (defArgs (topS 66)) (@FuncBody.stmts (defBody (topS 66))) (defScope (topS 66)) (nat_lit 3) [] Value.none Value.none Value.none (@Value.str (@Str.ofString "law_menuhouses_k20_tables_of_houses") (nat_lit 1134)) none (@Value.ref (nat_lit 746)) Value.none (nat_lit 0))) (.mk []))
def o748 (P : Params) : Obj := (@Obj.mk (@Value.type "tuple") none (@Data.seq (.mk []) (nat_lit 0)) (.mk []))
def o749 (P : Params) : Obj := (@Obj.mk Value.none none (@Data.fields (.mk [])) (.mk []))
def o750 (P : Params) : Obj := (@Obj.mk (@Value.type "tuple") none (@Data.seq (.mk [(@Value.str (@Str.ofString "_law_purse_here") (nat_lit 1170)), (@Value.str (@Str.ofString "_law_things_here") (nat_lit 1171)), (@Value.str (@Str.ofString "_law_left") (nat_lit 1172)), (@Value.str (@Str.ofString "_law_found") (nat_lit 1173)), (@Value.str (@Str.ofString "_law_turn") (nat_lit 1174))]) (nat_lit 0)) (.mk []))
def o751 (P : Params) : Obj := (@Obj.mk (@Value.type "tuple") none (@Data.seq (.mk []) (nat_lit 0)) (.mk []))
def o752 (P : Params) : Obj := (@Obj.mk Value.none none (@Data.func (@FuncData.mk (@Str.ofString "_law_order") (@Str.ofString "_law_order") (defArgs (topS 67)) (@FuncBody.stmts (defBody (topS 67))) (defScope (topS 67)) (nat_lit 0) [] Value.none Value.none Value.none Value.none none Value.none Value.none (nat_lit 0))) (.mk []))
def o753 (P : Params) : Obj := (@Obj.mk (@Value.type "code") none (@Data.fields (.mk [(@Value.str (@Str.ofString "_law_order") (nat_lit 1167)), (@Value.str (@Str.ofString "_law_order") (nat_lit 1168)), (@Value.str (@Str.ofString "/claim/cut.py") (nat_lit 1169)), (@Value.int (.ofNat (nat_lit 403)) (nat_lit 0)), (@Value.int (.ofNat (nat_lit 2)) (nat_lit 0)), (@Value.int (.ofNat (nat_lit 0)) (nat_lit 0)), (@Value.int (.ofNat (nat_lit 0)) (nat_lit 0)), (@Value.int (.ofNat (nat_lit 3)) (nat_lit 0)), (@Value.ref (nat_lit 748)), (@Value.bool true), (@Value.int (.ofNat (nat_lit 181)) (nat_lit 0)), (@Value.ref (nat_lit 749)), Value.none, (@Value.ref (nat_lit 750)), (@Value.ref (nat_lit 751)), (@Value.ref (nat_lit 752)), (@Value.int (.ofNat (nat_lit 1175)) (nat_lit 0)), (@Value.int (.ofNat (nat_lit 403)) (nat_lit 0)), (@Value.str (@Str.ofString "/claim/cut.py") (nat_lit 1176))])) (.mk []))
def o754 (P : Params) : Obj := (@Obj.mk (@Value.type "function") none (@Data.func (@FuncData.mk (@Str.ofString "_law_order") (@Str.ofString "_law_order") (defArgs (topS 67)) (@FuncBody.stmts (defBody (topS 67))) (defScope (topS 67)) (nat_lit 3) [] Value.none Value.none Value.none (@Value.str (@Str.ofString "law_menuhouses_k20_tables_of_houses") (nat_lit 1134)) none (@Value.ref (nat_lit 753)) Value.none (nat_lit 0))) (.mk []))
def o755 (P : Params) : Obj := (@Obj.mk (@Value.type "tuple") none (@Data.seq (.mk []) (nat_lit 0)) (.mk []))
def o756 (P : Params) : Obj := (@Obj.mk Value.none none (@Data.fields (.mk [])) (.mk []))
def o757 (P : Params) : Obj := (@Obj.mk (@Value.type "tuple") none (@Data.seq (.mk [(@Value.str (@Str.ofString "_law_purse_here") (nat_lit 1181)), (@Value.str (@Str.ofString "_law_row") (nat_lit 1182)), (@Value.str (@Str.ofString "_law_found") (nat_lit 1183)), (@Value.str (@Str.ofString "_law_turn") (nat_lit 1184)), (@Value.str (@Str.ofString "_law_at") (nat_lit 1185))]) (nat_lit 0)) (.mk []))
def o758 (P : Params) : Obj := (@Obj.mk (@Value.type "tuple") none (@Data.seq (.mk []) (nat_lit 0)) (.mk []))
def o759 (P : Params) : Obj := (@Obj.mk Value.none none (@Data.func (@FuncData.mk (@Str.ofString "_law_near") (@Str.ofString "_law_near") (defArgs (topS 68)) (@FuncBody.stmts (defBody (topS 68))) (defScope (topS 68)) (nat_lit 0) [] Value.none Value.none Value.none Value.none none Value.none Value.none (nat_lit 0))) (.mk []))
def o760 (P : Params) : Obj := (@Obj.mk (@Value.type "code") none (@Data.fields (.mk [(@Value.str (@Str.ofString "_law_near") (nat_lit 1178)), (@Value.str (@Str.ofString "_law_near") (nat_lit 1179)), (@Value.str (@Str.ofString "/claim/cut.py") (nat_lit 1180)), (@Value.int (.ofNat (nat_lit 408)) (nat_lit 0)), (@Value.int (.ofNat (nat_lit 2)) (nat_lit 0)), (@Value.int (.ofNat (nat_lit 0)) (nat_lit 0)), (@Value.int (.ofNat (nat_lit 0)) (nat_lit 0)), (@Value.int (.ofNat (nat_lit 3)) (nat_lit 0)), (@Value.ref (nat_lit 755)), (@Value.bool true), (@Value.int (.ofNat (nat_lit 181)) (nat_lit 0)), (@Value.ref (nat_lit 756)), Value.none, (@Value.ref (nat_lit 757)), (@Value.ref (nat_lit 758)), (@Value.ref (nat_lit 759)), (@Value.int (.ofNat (nat_lit 1186)) (nat_lit 0)), (@Value.int (.ofNat (nat_lit 408)) (nat_lit 0)), (@Value.str (@Str.ofString "/claim/cut.py") (nat_lit 1187))])) (.mk []))
def o761 (P : Params) : Obj := (@Obj.mk (@Value.type "function") none (@Data.func (@FuncData.mk (@Str.ofString "_law_near") (@Str.ofString "_law_near") (defArgs (topS 68)) (@FuncBody.stmts (defBody (topS 68))) (defScope (topS 68)) (nat_lit 3) [] Value.none Value.none Value.none (@Value.str (@Str.ofString "law_menuhouses_k20_tables_of_houses") (nat_lit 1134)) none (@Value.ref (nat_lit 760)) Value.none (nat_lit 0))) (.mk []))
def o762 (P : Params) : Obj := (@Obj.mk (@Value.type "tuple") none (@Data.seq (.mk []) (nat_lit 0)) (.mk []))
def o763 (P : Params) : Obj := (@Obj.mk Value.none none (@Data.fields (.mk [])) (.mk []))
def o764 (P : Params) : Obj := (@Obj.mk (@Value.type "tuple") none (@Data.seq (.mk [(@Value.str (@Str.ofString "_law_purse_here") (nat_lit 1192)), (@Value.str (@Str.ofString "_law_things_here") (nat_lit 1193)), (@Value.str (@Str.ofString "_law_most") (nat_lit 1194)), (@Value.str (@Str.ofString "_law_found") (nat_lit 1195)), (@Value.str (@Str.ofString "_law_turn") (nat_lit 1196)), (@Value.str (@Str.ofString "_law_way") (nat_lit 1197)), (@Value.str (@Str.ofString "_law_last") (nat_lit 1198)), (@Value.str (@Str.ofString "_law_row") (nat_lit 1199))]) (nat_lit 0)) (.mk []))
def o765 (P : Params) : Obj := (@Obj.mk (@Value.type "tuple") none (@Data.seq (.mk []) (nat_lit 0)) (.mk []))
def o766 (P : Params) : Obj := (@Obj.mk Value.none none (@Data.func (@FuncData.mk (@Str.ofString "_law_rows") (@Str.ofString "_law_rows") (defArgs (topS 69)) (@FuncBody.stmts (defBody (topS 69))) (defScope (topS 69)) (nat_lit 0) [] Value.none Value.none Value.none Value.none none Value.none Value.none (nat_lit 0))) (.mk []))
def o767 (P : Params) : Obj := (@Obj.mk (@Value.type "code") none (@Data.fields (.mk [(@Value.str (@Str.ofString "_law_rows") (nat_lit 1189)), (@Value.str (@Str.ofString "_law_rows") (nat_lit 1190)), (@Value.str (@Str.ofString "/claim/cut.py") (nat_lit 1191)), (@Value.int (.ofNat (nat_lit 414)) (nat_lit 0)), (@Value.int (.ofNat (nat_lit 3)) (nat_lit 0)), (@Value.int (.ofNat (nat_lit 0)) (nat_lit 0)), (@Value.int (.ofNat (nat_lit 0)) (nat_lit 0)), (@Value.int (.ofNat (nat_lit 3)) (nat_lit 0)), (@Value.ref (nat_lit 762)), (@Value.bool true), (@Value.int (.ofNat (nat_lit 181)) (nat_lit 0)), (@Value.ref (nat_lit 763)), Value.none, (@Value.ref (nat_lit 764)), (@Value.ref (nat_lit 765)), (@Value.ref (nat_lit 766)), (@Value.int (.ofNat (nat_lit 1200)) (nat_lit 0)), (@Value.int (.ofNat (nat_lit 414)) (nat_lit 0)), (@Value.str (@Str.ofString "/claim/cut.py") (nat_lit 1201))])) (.mk []))
def o768 (P : Params) : Obj := (@Obj.mk (@Value.type "function") none (@Data.func (@FuncData.mk (@Str.ofString "_law_rows") (@Str.ofString "_law_rows") (defArgs (topS 69)) (@FuncBody.stmts (defBody (topS 69))) (defScope (topS 69)) (nat_lit 3) [] Value.none Value.none Value.none (@Value.str (@Str.ofString "law_menuhouses_k20_tables_of_houses") (nat_lit 1134)) none (@Value.ref (nat_lit 767)) Value.none (nat_lit 0))) (.mk []))
def o769 (P : Params) : Obj := (@Obj.mk (@Value.type "tuple") none (@Data.seq (.mk []) (nat_lit 0)) (.mk []))
def o770 (P : Params) : Obj := (@Obj.mk Value.none none (@Data.fields (.mk [])) (.mk []))
def o771 (P : Params) : Obj := (@Obj.mk Value.none none (@Data.func (@FuncData.mk (@Str.ofString "_law_house") (@Str.ofString "_law_house") (defArgs (topS 70)) (@FuncBody.stmts (defBody (topS 70))) (defScope (topS 70)) (nat_lit 0) [] Value.none Value.none Value.none Value.none none Value.none Value.none (nat_lit 0))) (.mk []))
def o772 (P : Params) : Obj := (@Obj.mk (@Value.type "code") none (@Data.fields (.mk [(@Value.str (@Str.ofString "_law_house") (nat_lit 1203)), (@Value.str (@Str.ofString "_law_house") (nat_lit 1204)), (@Value.str (@Str.ofString "/claim/cut.py") (nat_lit 1205)), (@Value.int (.ofNat (nat_lit 424)) (nat_lit 0)), (@Value.int (.ofNat (nat_lit 1)) (nat_lit 0)), (@Value.int (.ofNat (nat_lit 0)) (nat_lit 0)), (@Value.int (.ofNat (nat_lit 0)) (nat_lit 0)), (@Value.int (.ofNat (nat_lit 3)) (nat_lit 0)), (@Value.ref (nat_lit 769)), (@Value.bool true), (@Value.int (.ofNat (nat_lit 181)) (nat_lit 0)), (@Value.ref (nat_lit 770)), Value.none, Value.none, Value.none, (@Value.ref (nat_lit 771)), (@Value.int (.ofNat (nat_lit 1206)) (nat_lit 0)), (@Value.int (.ofNat (nat_lit 424)) (nat_lit 0)), (@Value.str (@Str.ofString "/claim/cut.py") (nat_lit 1207))])) (.mk []))
def o773 (P : Params) : Obj := (@Obj.mk (@Value.type "function") none (@Data.func (@FuncData.mk (@Str.ofString "_law_house") (@Str.ofString "_law_house") (defArgs (topS 70)) (@FuncBody.stmts (defBody (topS 70))) (defScope (topS 70)) (nat_lit 3) [] Value.none Value.none Value.none (@Value.str (@Str.ofString "law_menuhouses_k20_tables_of_houses") (nat_lit 1134)) none (@Value.ref (nat_lit 772)) Value.none (nat_lit 0))) (.mk []))
def o774 (P : Params) : Obj := (@Obj.mk (@Value.type "tuple") none (@Data.seq (.mk []) (nat_lit 0)) (.mk []))
def o775 (P : Params) : Obj := (@Obj.mk Value.none none (@Data.fields (.mk [])) (.mk []))
def o776 (P : Params) : Obj := (@Obj.mk (@Value.type "tuple") none (@Data.seq (.mk [(@Value.str (@Str.ofString "_law_row") (nat_lit 1212)), (@Value.str (@Str.ofString "_law_thing") (nat_lit 1213))]) (nat_lit 0)) (.mk []))
def o777 (P : Params) : Obj := (@Obj.mk (@Value.type "tuple") none (@Data.seq (.mk []) (nat_lit 0)) (.mk []))
def o778 (P : Params) : Obj := (@Obj.mk Value.none none (@Data.func (@FuncData.mk (@Str.ofString "_law_below") (@Str.ofString "_law_below") (defArgs (topS 71)) (@FuncBody.stmts (defBody (topS 71))) (defScope (topS 71)) (nat_lit 0) [] Value.none Value.none Value.none Value.none none Value.none Value.none (nat_lit 0))) (.mk []))
def o779 (P : Params) : Obj := (@Obj.mk (@Value.type "code") none (@Data.fields (.mk [(@Value.str (@Str.ofString "_law_below") (nat_lit 1209)), (@Value.str (@Str.ofString "_law_below") (nat_lit 1210)), (@Value.str (@Str.ofString "/claim/cut.py") (nat_lit 1211)), (@Value.int (.ofNat (nat_lit 430)) (nat_lit 0)), (@Value.int (.ofNat (nat_lit 2)) (nat_lit 0)), (@Value.int (.ofNat (nat_lit 0)) (nat_lit 0)), (@Value.int (.ofNat (nat_lit 0)) (nat_lit 0)), (@Value.int (.ofNat (nat_lit 3)) (nat_lit 0)), (@Value.ref (nat_lit 774)), (@Value.bool true), (@Value.int (.ofNat (nat_lit 181)) (nat_lit 0)), (@Value.ref (nat_lit 775)), Value.none, (@Value.ref (nat_lit 776)), (@Value.ref (nat_lit 777)), (@Value.ref (nat_lit 778)), (@Value.int (.ofNat (nat_lit 1214)) (nat_lit 0)), (@Value.int (.ofNat (nat_lit 430)) (nat_lit 0)), (@Value.str (@Str.ofString "/claim/cut.py") (nat_lit 1215))])) (.mk []))
def o780 (P : Params) : Obj := (@Obj.mk (@Value.type "function") none (@Data.func (@FuncData.mk (@Str.ofString "_law_below") (@Str.ofString "_law_below") (defArgs (topS 71)) (@FuncBody.stmts (defBody (topS 71))) (defScope (topS 71)) (nat_lit 3) [] Value.none Value.none Value.none (@Value.str (@Str.ofString "law_menuhouses_k20_tables_of_houses") (nat_lit 1134)) none (@Value.ref (nat_lit 779)) Value.none (nat_lit 0))) (.mk []))
def o781 (P : Params) : Obj := (@Obj.mk (@Value.type "tuple") none (@Data.seq (.mk []) (nat_lit 0)) (.mk []))
def o782 (P : Params) : Obj := (@Obj.mk Value.none none (@Data.fields (.mk [])) (.mk []))
def o783 (P : Params) : Obj := (@Obj.mk Value.none none (@Data.func (@FuncData.mk (@Str.ofString "_law_part") (@Str.ofString "_law_part") (defArgs (topS 72)) (@FuncBody.stmts (defBody (topS 72))) (defScope (topS 72)) (nat_lit 0) [] Value.none Value.none Value.none Value.none none Value.none Value.none (nat_lit 0))) (.mk []))
def o784 (P : Params) : Obj := (@Obj.mk (@Value.type "code") none (@Data.fields (.mk [(@Value.str (@Str.ofString "_law_part") (nat_lit 1217)), (@Value.str (@Str.ofString "_law_part") (nat_lit 1218)), (@Value.str (@Str.ofString "/claim/cut.py") (nat_lit 1219)), (@Value.int (.ofNat (nat_lit 432)) (nat_lit 0)), (@Value.int (.ofNat (nat_lit 2)) (nat_lit 0)), (@Value.int (.ofNat (nat_lit 0)) (nat_lit 0)), (@Value.int (.ofNat (nat_lit 0)) (nat_lit 0)), (@Value.int (.ofNat (nat_lit 3)) (nat_lit 0)), (@Value.ref (nat_lit 781)), (@Value.bool true), (@Value.int (.ofNat (nat_lit 181)) (nat_lit 0)), (@Value.ref (nat_lit 782)), Value.none, Value.none, Value.none, (@Value.ref (nat_lit 783)), (@Value.int (.ofNat (nat_lit 1220)) (nat_lit 0)), (@Value.int (.ofNat (nat_lit 432)) (nat_lit 0)), (@Value.str (@Str.ofString "/claim/cut.py") (nat_lit 1221))])) (.mk []))
def o785 (P : Params) : Obj := (@Obj.mk (@Value.type "function") none (@Data.func (@FuncData.mk (@Str.ofString "_law_part") (@Str.ofString "_law_part") (defArgs (topS 72)) (@FuncBody.stmts (defBody (topS 72))) (defScope (topS 72)) (nat_lit 3) [] Value.none Value.none Value.none (@Value.str (@Str.ofString "law_menuhouses_k20_tables_of_houses") (nat_lit 1134)) none (@Value.ref (nat_lit 784)) Value.none (nat_lit 0))) (.mk []))
def o3v6 (P : Params) : Obj := (@Obj.mk (@Value.type "dict") none (@Data.dict (.mk [(@DictEntry.mk (@PyData.keyHash P (@Str.ofString "__name__")) (@Value.str (@Str.ofString "__name__") (nat_lit 165)) (@Value.str (@Str.ofString "law_menuhouses_k20_tables_of_houses") (nat_lit 1134))), (@DictEntry.mk (@PyData.keyHash P (@Str.ofString "__doc__")) (@Value.str (@Str.ofString "__doc__") (nat_lit 166)) Value.none), (@DictEntry.mk (@PyData.keyHash P (@Str.ofString "__package__")) (@Value.str (@Str.ofString "__package__") (nat_lit 167)) Value.none), (@DictEntry.mk (@PyData.keyHash P (@Str.ofString "__loader__")) (@Value.str (@Str.ofString "__loader__") (nat_lit 168)) (@Value.builtin "__main__.__loader__#opaque")), (@DictEntry.mk (@PyData.keyHash P (@Str.ofString "__spec__")) (@Value.str (@Str.ofString "__spec__") (nat_lit 169)) Value.none), (@DictEntry.mk (@PyData.keyHash P (@Str.ofString "__annotations__")) (@Value.str (@Str.ofString "__annotations__") (nat_lit 170)) (@Value.ref (nat_lit 6))), (@DictEntry.mk (@PyData.keyHash P (@Str.ofString "__builtins__")) (@Value.str (@Str.ofString "__builtins__") (nat_lit 171)) (@Value.ref (nat_lit 4))), (@DictEntry.mk (@PyData.keyHash P (@Str.ofString "__file__")) (@Value.str (@Str.ofString "__file__") (nat_lit 173)) (@Value.str (@Str.ofString "/claim/cut.py") (nat_lit 172))), (@DictEntry.mk (@PyData.keyHash P (@Str.ofString "__cached__")) (@Value.str (@Str.ofString "__cached__") (nat_lit 174)) Value.none), (@DictEntry.mk (@PyData.keyHash P (@Str.ofString "_wall")) (@Value.str (@Str.ofString "_wall") (nat_lit 193)) (@Value.ref (nat_lit 21))), (@DictEntry.mk (@PyData.keyHash P (@Str.ofString "WrongValue")) (@Value.str (@Str.ofString "WrongValue") (nat_lit 213)) (@Value.ref (nat_lit 31))), (@DictEntry.mk (@PyData.keyHash P (@Str.ofString "InvalidText")) (@Value.str (@Str.ofString "InvalidText") (nat_lit 238)) (@Value.ref (nat_lit 51))), (@DictEntry.mk (@PyData.keyHash P (@Str.ofString "InvalidIndex")) (@Value.str (@Str.ofString "InvalidIndex") (nat_lit 263)) (@Value.ref (nat_lit 70))), (@DictEntry.mk (@PyData.keyHash P (@Str.ofString "NotAHouse")) (@Value.str (@Str.ofString "NotAHouse") (nat_lit 288)) (@Value.ref (nat_lit 89))), (@DictEntry.mk (@PyData.keyHash P (@Str.ofString "OtherThings")) (@Value.str (@Str.ofString "OtherThings") (nat_lit 313)) (@Value.ref (nat_lit 108))), (@DictEntry.mk (@PyData.keyHash P (@Str.ofString "InvalidRow")) (@Value.str (@Str.ofString "InvalidRow") (nat_lit 338)) (@Value.ref (nat_lit 127))), (@DictEntry.mk (@PyData.keyHash P (@Str.ofString "InvalidMenu")) (@Value.str (@Str.ofString "InvalidMenu") (nat_lit 363)) (@Value.ref (nat_lit 146))), (@DictEntry.mk (@PyData.keyHash P (@Str.ofString "InvalidRankings")) (@Value.str (@Str.ofString "InvalidRankings") (nat_lit 388)) (@Value.ref (nat_lit 165))), (@DictEntry.mk (@PyData.keyHash P (@Str.ofString "WrongName")) (@Value.str (@Str.ofString "WrongName") (nat_lit 406)) (@Value.ref (nat_lit 177))), (@DictEntry.mk (@PyData.keyHash P (@Str.ofString "UnknownThing")) (@Value.str (@Str.ofString "UnknownThing") (nat_lit 431)) (@Value.ref (nat_lit 197))), (@DictEntry.mk (@PyData.keyHash P (@Str.ofString "NoAnswer")) (@Value.str (@Str.ofString "NoAnswer") (nat_lit 451)) (@Value.ref (nat_lit 209))), (@DictEntry.mk (@PyData.keyHash P (@Str.ofString "TooMany")) (@Value.str (@Str.ofString "TooMany") (nat_lit 476)) (@Value.ref (nat_lit 229))), (@DictEntry.mk (@PyData.keyHash P (@Str.ofString "NoHouse")) (@Value.str (@Str.ofString "NoHouse") (nat_lit 501)) (@Value.ref (nat_lit 248))), (@DictEntry.mk (@PyData.keyHash P (@Str.ofString "MOST_THINGS")) (@Value.str (@Str.ofString "MOST_THINGS") (nat_lit 503)) (@Value.int (.ofNat (nat_lit 10)) (nat_lit 502))), (@DictEntry.mk (@PyData.keyHash P (@Str.ofString "MOST_PEOPLE")) (@Value.str (@Str.ofString "MOST_PEOPLE") (nat_lit 505)) (@Value.int (.ofNat (nat_lit 24)) (nat_lit 504))), (@DictEntry.mk (@PyData.keyHash P (@Str.ofString "LETTERS")) (@Value.str (@Str.ofString "LETTERS") (nat_lit 509)) (@Value.str (@Str.ofString "abcdefghijklmnopqrstuvwxyz") (nat_lit 508))), (@DictEntry.mk (@PyData.keyHash P (@Str.ofString "DIGITS")) (@Value.str (@Str.ofString "DIGITS") (nat_lit 511)) (@Value.str (@Str.ofString "0123456789") (nat_lit 510))), (@DictEntry.mk (@PyData.keyHash P (@Str.ofString "LONGEST_NAME")) (@Value.str (@Str.ofString "LONGEST_NAME") (nat_lit 513)) (@Value.int (.ofNat (nat_lit 8)) (nat_lit 512))), (@DictEntry.mk (@PyData.keyHash P (@Str.ofString "is_index")) (@Value.str (@Str.ofString "is_index") (nat_lit 521)) (@Value.ref (nat_lit 257))), (@DictEntry.mk (@PyData.keyHash P (@Str.ofString "is_name")) (@Value.str (@Str.ofString "is_name") (nat_lit 527)) (@Value.ref (nat_lit 262))), (@DictEntry.mk (@PyData.keyHash P (@Str.ofString "is_filled_tuple")) (@Value.str (@Str.ofString "is_filled_tuple") (nat_lit 534)) (@Value.ref (nat_lit 269))), (@DictEntry.mk (@PyData.keyHash P (@Str.ofString "is_one_of")) (@Value.str (@Str.ofString "is_one_of") (nat_lit 542)) (@Value.ref (nat_lit 276))), (@DictEntry.mk (@PyData.keyHash P (@Str.ofString "first_wrong_in_row")) (@Value.str (@Str.ofString "first_wrong_in_row") (nat_lit 551)) (@Value.ref (nat_lit 283))), (@DictEntry.mk (@PyData.keyHash P (@Str.ofString "first_wrong_on_menu")) (@Value.str (@Str.ofString "first_wrong_on_menu") (nat_lit 561)) (@Value.ref (nat_lit 290))), (@DictEntry.mk (@PyData.keyHash P (@Str.ofString "check_row")) (@Value.str (@Str.ofString "check_row") (nat_lit 569)) (@Value.ref (nat_lit 297))), (@DictEntry.mk (@PyData.keyHash P (@Str.ofString "check_menu")) (@Value.str (@Str.ofString "check_menu") (nat_lit 578)) (@Value.ref (nat_lit 304))), (@DictEntry.mk (@PyData.keyHash P (@Str.ofString "check_thing")) (@Value.str (@Str.ofString "check_thing") (nat_lit 586)) (@Value.ref (nat_lit 311))), (@DictEntry.mk (@PyData.keyHash P (@Str.ofString "mask_of_all")) (@Value.str (@Str.ofString "mask_of_all") (nat_lit 595)) (@Value.ref (nat_lit 318))), (@DictEntry.mk (@PyData.keyHash P (@Str.ofString "index_of")) (@Value.str (@Str.ofString "index_of") (nat_lit 601)) (@Value.ref (nat_lit 323))), (@DictEntry.mk (@PyData.keyHash P (@Str.ofString "mask_of")) (@Value.str (@Str.ofString "mask_of") (nat_lit 611)) (@Value.ref (nat_lit 330))), (@DictEntry.mk (@PyData.keyHash P (@Str.ofString "indexes_of")) (@Value.str (@Str.ofString "indexes_of") (nat_lit 617)) (@Value.ref (nat_lit 335))), (@DictEntry.mk (@PyData.keyHash P (@Str.ofString "names_of")) (@Value.str (@Str.ofString "names_of") (nat_lit 623)) (@Value.ref (nat_lit 340))), (@DictEntry.mk (@PyData.keyHash P (@Str.ofString "below_masks")) (@Value.str (@Str.ofString "below_masks") (nat_lit 629)) (@Value.ref (nat_lit 345))), (@DictEntry.mk (@PyData.keyHash P (@Str.ofString "is_covered")) (@Value.str (@Str.ofString "is_covered") (nat_lit 638)) (@Value.ref (nat_lit 352))), (@DictEntry.mk (@PyData.keyHash P (@Str.ofString "greatest")) (@Value.str (@Str.ofString "greatest") (nat_lit 647)) (@Value.ref (nat_lit 359))), (@DictEntry.mk (@PyData.keyHash P (@Str.ofString "greater_sets")) (@Value.str (@Str.ofString "greater_sets") (nat_lit 655)) (@Value.ref (nat_lit 364))), (@DictEntry.mk (@PyData.keyHash P (@Str.ofString "pairs_back")) (@Value.str (@Str.ofString "pairs_back") (nat_lit 666)) (@Value.ref (nat_lit 371))), (@DictEntry.mk (@PyData.keyHash P (@Str.ofString "pairs_for")) (@Value.str (@Str.ofString "pairs_for") (nat_lit 680)) (@Value.ref (nat_lit 378))), (@DictEntry.mk (@PyData.keyHash P (@Str.ofString "most_pairs")) (@Value.str (@Str.ofString "most_pairs") (nat_lit 692)) (@Value.ref (nat_lit 385))), (@DictEntry.mk (@PyData.keyHash P (@Str.ofString "chains")) (@Value.str (@Str.ofString "chains") (nat_lit 704)) (@Value.ref (nat_lit 392))), (@DictEntry.mk (@PyData.keyHash P (@Str.ofString "takes")) (@Value.str (@Str.ofString "takes") (nat_lit 715)) (@Value.ref (nat_lit 399))), (@DictEntry.mk (@PyData.keyHash P (@Str.ofString "indexes_taken")) (@Value.str (@Str.ofString "indexes_taken") (nat_lit 721)) (@Value.ref (nat_lit 404))), (@DictEntry.mk (@PyData.keyHash P (@Str.ofString "joining_steps")) (@Value.str (@Str.ofString "joining_steps") (nat_lit 727)) (@Value.ref (nat_lit 409))), (@DictEntry.mk (@PyData.keyHash P (@Str.ofString "dead_end")) (@Value.str (@Str.ofString "dead_end") (nat_lit 735)) (@Value.ref (nat_lit 416))), (@DictEntry.mk (@PyData.keyHash P (@Str.ofString "rows_ahead")) (@Value.str (@Str.ofString "rows_ahead") (nat_lit 746)) (@Value.ref (nat_lit 423))), (@DictEntry.mk (@PyData.keyHash P (@Str.ofString "crests_of_steps")) (@Value.str (@Str.ofString "crests_of_steps") (nat_lit 752)) (@Value.ref (nat_lit 428))), (@DictEntry.mk (@PyData.keyHash P (@Str.ofString "row_with_crests")) (@Value.str (@Str.ofString "row_with_crests") (nat_lit 758)) (@Value.ref (nat_lit 433))), (@DictEntry.mk (@PyData.keyHash P (@Str.ofString "fewest_rows")) (@Value.str (@Str.ofString "fewest_rows") (nat_lit 764)) (@Value.ref (nat_lit 438))), (@DictEntry.mk (@PyData.keyHash P (@Str.ofString "Ranking")) (@Value.str (@Str.ofString "Ranking") (nat_lit 941)) (@Value.ref (nat_lit 571))), (@DictEntry.mk (@PyData.keyHash P (@Str.ofString "check_house")) (@Value.str (@Str.ofString "check_house") (nat_lit 950)) (@Value.ref (nat_lit 582))), (@DictEntry.mk (@PyData.keyHash P (@Str.ofString "check_other_house")) (@Value.str (@Str.ofString "check_other_house") (nat_lit 958)) (@Value.ref (nat_lit 589))), (@DictEntry.mk (@PyData.keyHash P (@Str.ofString "check_rankings")) (@Value.str (@Str.ofString "check_rankings") (nat_lit 967)) (@Value.ref (nat_lit 596))), (@DictEntry.mk (@PyData.keyHash P (@Str.ofString "are_rows_of_a_house")) (@Value.str (@Str.ofString "are_rows_of_a_house") (nat_lit 973)) (@Value.ref (nat_lit 601))), (@DictEntry.mk (@PyData.keyHash P (@Str.ofString "house_of_rows")) (@Value.str (@Str.ofString "house_of_rows") (nat_lit 979)) (@Value.ref (nat_lit 606))), (@DictEntry.mk (@PyData.keyHash P (@Str.ofString "House")) (@Value.str (@Str.ofString "House") (nat_lit 1133)) (@Value.ref (nat_lit 722))), (@DictEntry.mk (@PyData.keyHash P (@Str.ofString "_law_purse")) (@Value.str (@Str.ofString "_law_purse") (nat_lit 1146)) (@Value.ref (nat_lit 733))), (@DictEntry.mk (@PyData.keyHash P (@Str.ofString "_law_draw")) (@Value.str (@Str.ofString "_law_draw") (nat_lit 1155)) (@Value.ref (nat_lit 740))), (@DictEntry.mk (@PyData.keyHash P (@Str.ofString "_law_things")) (@Value.str (@Str.ofString "_law_things") (nat_lit 1166)) (@Value.ref (nat_lit 747))), (@DictEntry.mk (@PyData.keyHash P (@Str.ofString "_law_order")) (@Value.str (@Str.ofString "_law_order") (nat_lit 1177)) (@Value.ref (nat_lit 754))), (@DictEntry.mk (@PyData.keyHash P (@Str.ofString "_law_near")) (@Value.str (@Str.ofString "_law_near") (nat_lit 1188)) (@Value.ref (nat_lit 761))), (@DictEntry.mk (@PyData.keyHash P (@Str.ofString "_law_rows")) (@Value.str (@Str.ofString "_law_rows") (nat_lit 1202)) (@Value.ref (nat_lit 768))), (@DictEntry.mk (@PyData.keyHash P (@Str.ofString "_law_house")) (@Value.str (@Str.ofString "_law_house") (nat_lit 1208)) (@Value.ref (nat_lit 773))), (@DictEntry.mk (@PyData.keyHash P (@Str.ofString "_law_below")) (@Value.str (@Str.ofString "_law_below") (nat_lit 1216)) (@Value.ref (nat_lit 780))), (@DictEntry.mk (@PyData.keyHash P (@Str.ofString "_law_part")) (@Value.str (@Str.ofString "_law_part") (nat_lit 1222)) (@Value.ref (nat_lit 785))), (@DictEntry.mk (@PyData.keyHash P (@Str.ofString "_law_crests")) (@Value.str (@Str.ofString "_law_crests") (nat_lit 1228)) (@Value.ref (nat_lit 790))), (@DictEntry.mk (@PyData.keyHash P (@Str.ofString "_law_line")) (@Value.str (@Str.ofString "_law_line") (nat_lit 1234)) (@Value.ref (nat_lit 795))), (@DictEntry.mk (@PyData.keyHash P (@Str.ofString "_law_right")) (@Value.str (@Str.ofString "_law_right") (nat_lit 1240)) (@Value.ref (nat_lit 800))), (@DictEntry.mk (@PyData.keyHash P (@Str.ofString "law")) (@Value.str (@Str.ofString "law") (nat_lit 1246)) (@Value.ref (nat_lit 805)))]) (nat_lit 78)) (.mk []))
def o786 (P : Params) : Obj := (@Obj.mk (@Value.type "tuple") none (@Data.seq (.mk []) (nat_lit 0)) (.mk []))
def o789 (P : Params) : Obj := (@Obj.mk (@Value.type "code") none (@Data.fields (.mk [(@Value.str (@Str.ofString "_law_crests") (nat_lit 1223)), (@Value.str (@Str.ofString "_law_crests") (nat_lit 1224)), (@Value.str (@Str.ofString "/claim/cut.py") (nat_lit 1225)), (@Value.int (.ofNat (nat_lit 434)) (nat_lit 0)), (@Value.int (.ofNat (nat_lit 1)) (nat_lit 0)), (@Value.int (.ofNat (nat_lit 0)) (nat_lit 0)), (@Value.int (.ofNat (nat_lit 0)) (nat_lit 0)), (@Value.int (.ofNat (nat_lit 3)) (nat_lit 0)), (@Value.ref (nat_lit 786)), (@Value.bool true), (@Value.int (.ofNat (nat_lit 181)) (nat_lit 0)), (@Value.ref (nat_lit 787)), Value.none, Value.none, Value.none, (@Value.ref (nat_lit 788)), (@Value.int (.ofNat (nat_lit 1226)) (nat_lit 0)), (@Value.int (.ofNat (nat_lit 434)) (nat_lit 0)), (@Value.str (@Str.ofString "/claim/cut.py") (nat_lit 1227))])) (.mk []))
def o790 (P : Params) : Obj := (@Obj.mk (@Value.type "function") none (@Data.func (@FuncData.mk (@Str.ofString "_law_crests") (@Str.ofString "_law_crests") (defArgs (topS 73)) (@FuncBody.stmts (defBody (topS 73))) (defScope (topS 73)) (nat_lit 3) [] Value.none Value.none Value.none (@Value.str (@Str.ofString "law_menuhouses_k20_tables_of_houses") (nat_lit 1134)) none (@Value.ref (nat_lit 789)) Value.none (nat_lit 0))) (.mk []))
def o791 (P : Params) : Obj := (@Obj.mk (@Value.type "tuple") none (@Data.seq (.mk []) (nat_lit 0)) (.mk []))
def o794 (P : Params) : Obj := (@Obj.mk (@Value.type "code") none (@Data.fields (.mk [(@Value.str (@Str.ofString "_law_line") (nat_lit 1229)), (@Value.str (@Str.ofString "_law_line") (nat_lit 1230)), (@Value.str (@Str.ofString "/claim/cut.py") (nat_lit 1231)), (@Value.int (.ofNat (nat_lit 441)) (nat_lit 0)), (@Value.int (.ofNat (nat_lit 3)) (nat_lit 0)), (@Value.int (.ofNat (nat_lit 0)) (nat_lit 0)), (@Value.int (.ofNat (nat_lit 0)) (nat_lit 0)), (@Value.int (.ofNat (nat_lit 3)) (nat_lit 0)), (@Value.ref (nat_lit 791)), (@Value.bool true), (@Value.int (.ofNat (nat_lit 181)) (nat_lit 0)), (@Value.ref (nat_lit 792)), Value.none, Value.none, Value.none, (@Value.ref (nat_lit 793)), (@Value.int (.ofNat (nat_lit 1232)) (nat_lit 0)), (@Value.int (.ofNat (nat_lit 441)) (nat_lit 0)), (@Value.str (@Str.ofString "/claim/cut.py") (nat_lit 1233))])) (.mk []))
def o795 (P : Params) : Obj := (@Obj.mk (@Value.type "function") none (@Data.func (@FuncData.mk (@Str.ofString "_law_line") (@Str.ofString "_law_line") (defArgs (topS 74)) (@FuncBody.stmts (defBody (topS 74))) (defScope (topS 74)) (nat_lit 3) [] Value.none Value.none Value.none (@Value.str (@Str.ofString "law_menuhouses_k20_tables_of_houses") (nat_lit 1134)) none (@Value.ref (nat_lit 794)) Value.none (nat_lit 0))) (.mk []))
def o796 (P : Params) : Obj := (@Obj.mk (@Value.type "tuple") none (@Data.seq (.mk []) (nat_lit 0)) (.mk []))
def o799 (P : Params) : Obj := (@Obj.mk (@Value.type "code") none (@Data.fields (.mk [(@Value.str (@Str.ofString "_law_right") (nat_lit 1235)), (@Value.str (@Str.ofString "_law_right") (nat_lit 1236)), (@Value.str (@Str.ofString "/claim/cut.py") (nat_lit 1237)), (@Value.int (.ofNat (nat_lit 444)) (nat_lit 0)), (@Value.int (.ofNat (nat_lit 1)) (nat_lit 0)), (@Value.int (.ofNat (nat_lit 0)) (nat_lit 0)), (@Value.int (.ofNat (nat_lit 0)) (nat_lit 0)), (@Value.int (.ofNat (nat_lit 3)) (nat_lit 0)), (@Value.ref (nat_lit 796)), (@Value.bool true), (@Value.int (.ofNat (nat_lit 181)) (nat_lit 0)), (@Value.ref (nat_lit 797)), Value.none, Value.none, Value.none, (@Value.ref (nat_lit 798)), (@Value.int (.ofNat (nat_lit 1238)) (nat_lit 0)), (@Value.int (.ofNat (nat_lit 444)) (nat_lit 0)), (@Value.str (@Str.ofString "/claim/cut.py") (nat_lit 1239))])) (.mk []))
def o800 (P : Params) : Obj := (@Obj.mk (@Value.type "function") none (@Data.func (@FuncData.mk (@Str.ofString "_law_right") (@Str.ofString "_law_right") (defArgs (topS 75)) (@FuncBody.stmts (defBody (topS 75))) (defScope (topS 75)) (nat_lit 3) [] Value.none Value.none Value.none (@Value.str (@Str.ofString "law_menuhouses_k20_tables_of_houses") (nat_lit 1134)) none (@Value.ref (nat_lit 799)) Value.none (nat_lit 0))) (.mk []))
def o801 (P : Params) : Obj := (@Obj.mk (@Value.type "tuple") none (@Data.seq (.mk []) (nat_lit 0)) (.mk []))
def o804 (P : Params) : Obj := (@Obj.mk (@Value.type "code") none (@Data.fields (.mk [(@Value.str (@Str.ofString "law") (nat_lit 1241)), (@Value.str (@Str.ofString "law") (nat_lit 1242)), (@Value.str (@Str.ofString "/claim/cut.py") (nat_lit 1243)), (@Value.int (.ofNat (nat_lit 452)) (nat_lit 0)), (@Value.int (.ofNat (nat_lit 1)) (nat_lit 0)), (@Value.int (.ofNat (nat_lit 0)) (nat_lit 0)), (@Value.int (.ofNat (nat_lit 0)) (nat_lit 0)), (@Value.int (.ofNat (nat_lit 3)) (nat_lit 0)), (@Value.ref (nat_lit 801)), (@Value.bool true), (@Value.int (.ofNat (nat_lit 181)) (nat_lit 0)), (@Value.ref (nat_lit 802)), Value.none, Value.none, Value.none, (@Value.ref (nat_lit 803)), (@Value.int (.ofNat (nat_lit 1244)) (nat_lit 0)), (@Value.int (.ofNat (nat_lit 452)) (nat_lit 0)), (@Value.str (@Str.ofString "/claim/cut.py") (nat_lit 1245))])) (.mk []))
def o805 (P : Params) : Obj := (@Obj.mk (@Value.type "function") none (@Data.func (@FuncData.mk (@Str.ofString "law") (@Str.ofString "law") (defArgs (topS 76)) (@FuncBody.stmts (defBody (topS 76))) (defScope (topS 76)) (nat_lit 3) [] Value.none Value.none Value.none (@Value.str (@Str.ofString "law_menuhouses_k20_tables_of_houses") (nat_lit 1134)) none (@Value.ref (nat_lit 804)) Value.none (nat_lit 0))) (.mk []))
def T0 (P : Params) : BT := (.node (boot_o_0 P) (.node (boot_o_1 P) (.node (boot_o_3 P) (.node (boot_o_7 P) .nil .nil) (.node (o11 P) .nil .nil)) (.node (boot_o_5 P) (.node (boot_o_9 P) .nil .nil) (.node (o13 P) .nil .nil))) (.node (boot_o_2 P) (.node (boot_o_4 P) (.node (boot_o_8 P) .nil .nil) (.node (o12 P) .nil .nil)) (.node (boot_o_6 P) (.node (boot_o_10 P) .nil .nil) (.node (o14 P) .nil .nil))))
abbrev S0 (w : World) (os : OsState) : SharedT := ⟨T0 w.params, (nat_lit 15), (boot_heap w.params).life, .mk [], boot_drawn, (nat_lit 187), os⟩
def T1 (P : Params) : BT := (.node (boot_o_0 P) (.node (boot_o_1 P) (.node (boot_o_3 P) (.node (boot_o_7 P) .nil .nil) (.node (o11 P) .nil .nil)) (.node (boot_o_5 P) (.node (boot_o_9 P) .nil .nil) (.node (o13 P) .nil .nil))) (.node (boot_o_2 P) (.node (boot_o_4 P) (.node (boot_o_8 P) .nil .nil) (.node (o12 P) .nil .nil)) (.node (boot_o_6 P) (.node (boot_o_10 P) .nil .nil) (.node (o14 P) .nil .nil))))
abbrev S1 (w : World) (os : OsState) : SharedT := ⟨T1 w.params, (nat_lit 15), (boot_heap w.params).life, .mk [], boot_drawn, (nat_lit 187), os⟩
def T2 (P : Params) : BT := (.node (boot_o_0 P) (.node (boot_o_1 P) (.node (o3 P) (.node (boot_o_7 P) (.node (o15 P) (.node (o31 P) (.node (o63 P) .nil .nil) (.node (o95 P) .nil .nil)) (.node (o47 P) (.node (o79 P) .nil .nil) .nil)) (.node (o23 P) (.node (o39 P) (.node (o71 P) .nil .nil) (.node (o103 P) .nil .nil)) (.node (o55 P) (.node (o87 P) .nil .nil) .nil))) (.node (o11 P) (.node (o19 P) (.node (o35 P) (.node (o67 P) .nil .nil) (.node (o99 P) .nil .nil)) (.node (o51 P) (.node (o83 P) .nil .nil) .nil)) (.node (o27 P) (.node (o43 P) (.node (o75 P) .nil .nil) (.node (o107 P) .nil .nil)) (.node (o59 P) (.node (o91 P) .nil .nil) .nil)))) (.node (boot_o_5 P) (.node (boot_o_9 P) (.node (o17 P) (.node (o33 P) (.node (o65 P) .nil .nil) (.node (o97 P) .nil .nil)) (.node (o49 P) (.node (o81 P) .nil .nil) .nil)) (.node (o25 P) (.node (o41 P) (.node (o73 P) .nil .nil) (.node (o105 P) .nil .nil)) (.node (o57 P) (.node (o89 P) .nil .nil) .nil))) (.node (o13 P) (.node (o21 P) (.node (o37 P) (.node (o69 P) .nil .nil) (.node (o101 P) .nil .nil)) (.node (o53 P) (.node (o85 P) .nil .nil) .nil)) (.node (o29 P) (.node (o45 P) (.node (o77 P) .nil .nil) (.node (o109 P) .nil .nil)) (.node (o61 P) (.node (o93 P) .nil .nil) .nil))))) (.node (boot_o_2 P) (.node (boot_o_4 P) (.node (boot_o_8 P) (.node (o16 P) (.node (o32 P) (.node (o64 P) .nil .nil) (.node (o96 P) .nil .nil)) (.node (o48 P) (.node (o80 P) .nil .nil) .nil)) (.node (o24 P) (.node (o40 P) (.node (o72 P) .nil .nil) (.node (o104 P) .nil .nil)) (.node (o56 P) (.node (o88 P) .nil .nil) .nil))) (.node (o12v1 P) (.node (o20 P) (.node (o36 P) (.node (o68 P) .nil .nil) (.node (o100 P) .nil .nil)) (.node (o52 P) (.node (o84 P) .nil .nil) .nil)) (.node (o28 P) (.node (o44 P) (.node (o76 P) .nil .nil) (.node (o108 P) .nil .nil)) (.node (o60 P) (.node (o92 P) .nil .nil) .nil)))) (.node (boot_o_6 P) (.node (boot_o_10 P) (.node (o18 P) (.node (o34 P) (.node (o66 P) .nil .nil) (.node (o98 P) .nil .nil)) (.node (o50 P) (.node (o82 P) .nil .nil) .nil)) (.node (o26 P) (.node (o42 P) (.node (o74 P) .nil .nil) (.node (o106 P) .nil .nil)) (.node (o58 P) (.node (o90 P) .nil .nil) .nil))) (.node (o14 P) (.node (o22 P) (.node (o38 P) (.node (o70 P) .nil .nil) (.node (o102 P) .nil .nil)) (.node (o54 P) (.node (o86 P) .nil .nil) .nil)) (.node (o30 P) (.node (o46 P) (.node (o78 P) .nil .nil) (.node (o110 P) .nil .nil)) (.node (o62 P) (.node (o94 P) .nil .nil) .nil))))))
abbrev S2 (w : World) (os : OsState) : SharedT := ⟨T2 w.params, (nat_lit 111), (boot_heap w.params).life, .mk [], boot_drawn, (nat_lit 314), os⟩
def T3 (P : Params) : BT := (.node (boot_o_0 P) (.node (boot_o_1 P) (.node (o3v1 P) (.node (boot_o_7 P) (.node (o15 P) (.node (o31v1 P) (.node (o63 P) (.node (o127 P) .nil .nil) (.node (o191 P) .nil .nil)) (.node (o95 P) (.node (o159 P) .nil .nil) .nil)) (.node (o47 P) (.node (o79 P) (.node (o143 P) .nil .nil) .nil) (.node (o111 P) (.node (o175 P) .nil .nil) .nil))) (.node (o23 P) (.node (o39 P) (.node (o71 P) (.node (o135 P) .nil .nil) (.node (o199 P) .nil .nil)) (.node (o103 P) (.node (o167 P) .nil .nil) .nil)) (.node (o55 P) (.node (o87 P) (.node (o151 P) .nil .nil) .nil) (.node (o119 P) (.node (o183 P) .nil .nil) .nil)))) (.node (o11 P) (.node (o19 P) (.node (o35 P) (.node (o67 P) (.node (o131 P) .nil .nil) (.node (o195 P) .nil .nil)) (.node (o99 P) (.node (o163 P) .nil .nil) .nil)) (.node (o51 P) (.node (o83 P) (.node (o147 P) .nil .nil) .nil) (.node (o115 P) (.node (o179 P) .nil .nil) .nil))) (.node (o27 P) (.node (o43 P) (.node (o75 P) (.node (o139 P) .nil .nil) .nil) (.node (o107 P) (.node (o171 P) .nil .nil) .nil)) (.node (o59 P) (.node (o91 P) (.node (o155 P) .nil .nil) .nil) (.node (o123 P) (.node (o187 P) .nil .nil) .nil))))) (.node (boot_o_5 P) (.node (boot_o_9 P) (.node (o17 P) (.node (o33 P) (.node (o65 P) (.node (o129 P) .nil .nil) (.node (o193 P) .nil .nil)) (.node (o97 P) (.node (o161 P) .nil .nil) .nil)) (.node (o49 P) (.node (o81 P) (.node (o145 P) .nil .nil) .nil) (.node (o113 P) (.node (o177 P) .nil .nil) .nil))) (.node (o25 P) (.node (o41 P) (.node (o73 P) (.node (o137 P) .nil .nil) .nil) (.node (o105 P) (.node (o169 P) .nil .nil) .nil)) (.node (o57 P) (.node (o89 P) (.node (o153 P) .nil .nil) .nil) (.node (o121 P) (.node (o185 P) .nil .nil) .nil)))) (.node (o13 P) (.node (o21 P) (.node (o37 P) (.node (o69 P) (.node (o133 P) .nil .nil) (.node (o197 P) .nil .nil)) (.node (o101 P) (.node (o165 P) .nil .nil) .nil)) (.node (o53 P) (.node (o85 P) (.node (o149 P) .nil .nil) .nil) (.node (o117 P) (.node (o181 P) .nil .nil) .nil))) (.node (o29 P) (.node (o45 P) (.node (o77 P) (.node (o141 P) .nil .nil) .nil) (.node (o109 P) (.node (o173 P) .nil .nil) .nil)) (.node (o61 P) (.node (o93 P) (.node (o157 P) .nil .nil) .nil) (.node (o125 P) (.node (o189 P) .nil .nil) .nil)))))) (.node (boot_o_2 P) (.node (boot_o_4 P) (.node (boot_o_8 P) (.node (o16 P) (.node (o32 P) (.node (o64 P) (.node (o128 P) .nil .nil) (.node (o192 P) .nil .nil)) (.node (o96 P) (.node (o160 P) .nil .nil) .nil)) (.node (o48 P) (.node (o80 P) (.node (o144 P) .nil .nil) .nil) (.node (o112 P) (.node (o176 P) .nil .nil) .nil))) (.node (o24 P) (.node (o40 P) (.node (o72 P) (.node (o136 P) .nil .nil) .nil) (.node (o104 P) (.node (o168 P) .nil .nil) .nil)) (.node (o56 P) (.node (o88 P) (.node (o152 P) .nil .nil) .nil) (.node (o120 P) (.node (o184 P) .nil .nil) .nil)))) (.node (o12v2 P) (.node (o20 P) (.node (o36 P) (.node (o68 P) (.node (o132 P) .nil .nil) (.node (o196 P) .nil .nil)) (.node (o100 P) (.node (o164 P) .nil .nil) .nil)) (.node (o52 P) (.node (o84 P) (.node (o148 P) .nil .nil) .nil) (.node (o116 P) (.node (o180 P) .nil .nil) .nil))) (.node (o28 P) (.node (o44 P) (.node (o76 P) (.node (o140 P) .nil .nil) .nil) (.node (o108 P) (.node (o172 P) .nil .nil) .nil)) (.node (o60 P) (.node (o92 P) (.node (o156 P) .nil .nil) .nil) (.node (o124 P) (.node (o188 P) .nil .nil) .nil))))) (.node (boot_o_6 P) (.node (boot_o_10 P) (.node (o18 P) (.node (o34 P) (.node (o66 P) (.node (o130 P) .nil .nil) (.node (o194 P) .nil .nil)) (.node (o98 P) (.node (o162 P) .nil .nil) .nil)) (.node (o50 P) (.node (o82 P) (.node (o146 P) .nil .nil) .nil) (.node (o114 P) (.node (o178 P) .nil .nil) .nil))) (.node (o26 P) (.node (o42 P) (.node (o74 P) (.node (o138 P) .nil .nil) .nil) (.node (o106 P) (.node (o170 P) .nil .nil) .nil)) (.node (o58 P) (.node (o90 P) (.node (o154 P) .nil .nil) .nil) (.node (o122 P) (.node (o186 P) .nil .nil) .nil)))) (.node (o14 P) (.node (o22 P) (.node (o38 P) (.node (o70 P) (.node (o134 P) .nil .nil) (.node (o198 P) .nil .nil)) (.node (o102 P) (.node (o166 P) .nil .nil) .nil)) (.node (o54 P) (.node (o86 P) (.node (o150 P) .nil .nil) .nil) (.node (o118 P) (.node (o182 P) .nil .nil) .nil))) (.node (o30 P) (.node (o46 P) (.node (o78 P) (.node (o142 P) .nil .nil) .nil) (.node (o110 P) (.node (o174 P) .nil .nil) .nil)) (.node (o62 P) (.node (o94 P) (.node (o158 P) .nil .nil) .nil) (.node (o126 P) (.node (o190 P) .nil .nil) .nil)))))))
abbrev S3 (w : World) (os : OsState) : SharedT := ⟨T3 w.params, (nat_lit 200), (boot_heap w.params).life, .mk [], boot_drawn, (nat_lit 432), os⟩
def T4 (P : Params) : BT := (.node (boot_o_0 P) (.node (boot_o_1 P) (.node (o3v2 P) (.node (boot_o_7 P) (.node (o15 P) (.node (o31v1 P) (.node (o63 P) (.node (o127 P) (.node (o255 P) .nil .nil) .nil) (.node (o191 P) (.node (o319 P) .nil .nil) .nil)) (.node (o95 P) (.node (o159 P) (.node (o287 P) .nil .nil) .nil) (.node (o223 P) (.node (o351 P) .nil .nil) .nil))) (.node (o47 P) (.node (o79 P) (.node (o143 P) (.node (o271 P) .nil .nil) .nil) (.node (o207 P) (.node (o335 P) .nil .nil) .nil)) (.node (o111 P) (.node (o175 P) (.node (o303 P) .nil .nil) .nil) (.node (o239 P) .nil .nil)))) (.node (o23 P) (.node (o39 P) (.node (o71 P) (.node (o135 P) (.node (o263 P) .nil .nil) .nil) (.node (o199 P) (.node (o327 P) .nil .nil) .nil)) (.node (o103 P) (.node (o167 P) (.node (o295 P) .nil .nil) .nil) (.node (o231 P) (.node (o359 P) .nil .nil) .nil))) (.node (o55 P) (.node (o87 P) (.node (o151 P) (.node (o279 P) .nil .nil) .nil) (.node (o215 P) (.node (o343 P) .nil .nil) .nil)) (.node (o119 P) (.node (o183 P) (.node (o311 P) .nil .nil) .nil) (.node (o247 P) .nil .nil))))) (.node (o11 P) (.node (o19 P) (.node (o35 P) (.node (o67 P) (.node (o131 P) (.node (o259 P) .nil .nil) .nil) (.node (o195 P) (.node (o323 P) .nil .nil) .nil)) (.node (o99 P) (.node (o163 P) (.node (o291 P) .nil .nil) .nil) (.node (o227 P) (.node (o355 P) .nil .nil) .nil))) (.node (o51 P) (.node (o83 P) (.node (o147 P) (.node (o275 P) .nil .nil) .nil) (.node (o211 P) (.node (o339 P) .nil .nil) .nil)) (.node (o115 P) (.node (o179 P) (.node (o307 P) .nil .nil) .nil) (.node (o243 P) .nil .nil)))) (.node (o27 P) (.node (o43 P) (.node (o75 P) (.node (o139 P) (.node (o267 P) .nil .nil) .nil) (.node (o203 P) (.node (o331 P) .nil .nil) .nil)) (.node (o107 P) (.node (o171 P) (.node (o299 P) .nil .nil) .nil) (.node (o235 P) (.node (o363 P) .nil .nil) .nil))) (.node (o59 P) (.node (o91 P) (.node (o155 P) (.node (o283 P) .nil .nil) .nil) (.node (o219 P) (.node (o347 P) .nil .nil) .nil)) (.node (o123 P) (.node (o187 P) (.node (o315 P) .nil .nil) .nil) (.node (o251 P) .nil .nil)))))) (.node (boot_o_5 P) (.node (boot_o_9 P) (.node (o17 P) (.node (o33 P) (.node (o65 P) (.node (o129 P) (.node (o257 P) .nil .nil) .nil) (.node (o193 P) (.node (o321 P) .nil .nil) .nil)) (.node (o97 P) (.node (o161 P) (.node (o289 P) .nil .nil) .nil) (.node (o225 P) (.node (o353 P) .nil .nil) .nil))) (.node (o49 P) (.node (o81 P) (.node (o145 P) (.node (o273 P) .nil .nil) .nil) (.node (o209 P) (.node (o337 P) .nil .nil) .nil)) (.node (o113 P) (.node (o177 P) (.node (o305 P) .nil .nil) .nil) (.node (o241 P) .nil .nil)))) (.node (o25 P) (.node (o41 P) (.node (o73 P) (.node (o137 P) (.node (o265 P) .nil .nil) .nil) (.node (o201 P) (.node (o329 P) .nil .nil) .nil)) (.node (o105 P) (.node (o169 P) (.node (o297 P) .nil .nil) .nil) (.node (o233 P) (.node (o361 P) .nil .nil) .nil))) (.node (o57 P) (.node (o89 P) (.node (o153 P) (.node (o281 P) .nil .nil) .nil) (.node (o217 P) (.node (o345 P) .nil .nil) .nil)) (.node (o121 P) (.node (o185 P) (.node (o313 P) .nil .nil) .nil) (.node (o249 P) .nil .nil))))) (.node (o13 P) (.node (o21 P) (.node (o37 P) (.node (o69 P) (.node (o133 P) (.node (o261 P) .nil .nil) .nil) (.node (o197 P) (.node (o325 P) .nil .nil) .nil)) (.node (o101 P) (.node (o165 P) (.node (o293 P) .nil .nil) .nil) (.node (o229 P) (.node (o357 P) .nil .nil) .nil))) (.node (o53 P) (.node (o85 P) (.node (o149 P) (.node (o277 P) .nil .nil) .nil) (.node (o213 P) (.node (o341 P) .nil .nil) .nil)) (.node (o117 P) (.node (o181 P) (.node (o309 P) .nil .nil) .nil) (.node (o245 P) .nil .nil)))) (.node (o29 P) (.node (o45 P) (.node (o77 P) (.node (o141 P) (.node (o269 P) .nil .nil) .nil) (.node (o205 P) (.node (o333 P) .nil .nil) .nil)) (.node (o109 P) (.node (o173 P) (.node (o301 P) .nil .nil) .nil) (.node (o237 P) .nil .nil))) (.node (o61 P) (.node (o93 P) (.node (o157 P) (.node (o285 P) .nil .nil) .nil) (.node (o221 P) (.node (o349 P) .nil .nil) .nil)) (.node (o125 P) (.node (o189 P) (.node (o317 P) .nil .nil) .nil) (.node (o253 P) .nil .nil))))))) (.node (o2 P) (.node (boot_o_4 P) (.node (boot_o_8 P) (.node (o16 P) (.node (o32 P) (.node (o64 P) (.node (o128 P) (.node (o256 P) .nil .nil) .nil) (.node (o192 P) (.node (o320 P) .nil .nil) .nil)) (.node (o96 P) (.node (o160 P) (.node (o288 P) .nil .nil) .nil) (.node (o224 P) (.node (o352 P) .nil .nil) .nil))) (.node (o48 P) (.node (o80 P) (.node (o144 P) (.node (o272 P) .nil .nil) .nil) (.node (o208 P) (.node (o336 P) .nil .nil) .nil)) (.node (o112 P) (.node (o176 P) (.node (o304 P) .nil .nil) .nil) (.node (o240 P) .nil .nil)))) (.node (o24 P) (.node (o40 P) (.node (o72 P) (.node (o136 P) (.node (o264 P) .nil .nil) .nil) (.node (o200 P) (.node (o328 P) .nil .nil) .nil)) (.node (o104 P) (.node (o168 P) (.node (o296 P) .nil .nil) .nil) (.node (o232 P) (.node (o360 P) .nil .nil) .nil))) (.node (o56 P) (.node (o88 P) (.node (o152 P) (.node (o280 P) .nil .nil) .nil) (.node (o216 P) (.node (o344 P) .nil .nil) .nil)) (.node (o120 P) (.node (o184 P) (.node (o312 P) .nil .nil) .nil) (.node (o248 P) .nil .nil))))) (.node (o12v3 P) (.node (o20 P) (.node (o36 P) (.node (o68 P) (.node (o132 P) (.node (o260 P) .nil .nil) .nil) (.node (o196 P) (.node (o324 P) .nil .nil) .nil)) (.node (o100 P) (.node (o164 P) (.node (o292 P) .nil .nil) .nil) (.node (o228 P) (.node (o356 P) .nil .nil) .nil))) (.node (o52 P) (.node (o84 P) (.node (o148 P) (.node (o276 P) .nil .nil) .nil) (.node (o212 P) (.node (o340 P) .nil .nil) .nil)) (.node (o116 P) (.node (o180 P) (.node (o308 P) .nil .nil) .nil) (.node (o244 P) .nil .nil)))) (.node (o28 P) (.node (o44 P) (.node (o76 P) (.node (o140 P) (.node (o268 P) .nil .nil) .nil) (.node (o204 P) (.node (o332 P) .nil .nil) .nil)) (.node (o108 P) (.node (o172 P) (.node (o300 P) .nil .nil) .nil) (.node (o236 P) (.node (o364 P) .nil .nil) .nil))) (.node (o60 P) (.node (o92 P) (.node (o156 P) (.node (o284 P) .nil .nil) .nil) (.node (o220 P) (.node (o348 P) .nil .nil) .nil)) (.node (o124 P) (.node (o188 P) (.node (o316 P) .nil .nil) .nil) (.node (o252 P) .nil .nil)))))) (.node (boot_o_6 P) (.node (boot_o_10 P) (.node (o18 P) (.node (o34 P) (.node (o66 P) (.node (o130 P) (.node (o258 P) .nil .nil) .nil) (.node (o194 P) (.node (o322 P) .nil .nil) .nil)) (.node (o98 P) (.node (o162 P) (.node (o290 P) .nil .nil) .nil) (.node (o226 P) (.node (o354 P) .nil .nil) .nil))) (.node (o50 P) (.node (o82 P) (.node (o146 P) (.node (o274 P) .nil .nil) .nil) (.node (o210 P) (.node (o338 P) .nil .nil) .nil)) (.node (o114 P) (.node (o178 P) (.node (o306 P) .nil .nil) .nil) (.node (o242 P) .nil .nil)))) (.node (o26 P) (.node (o42 P) (.node (o74 P) (.node (o138 P) (.node (o266 P) .nil .nil) .nil) (.node (o202 P) (.node (o330 P) .nil .nil) .nil)) (.node (o106 P) (.node (o170 P) (.node (o298 P) .nil .nil) .nil) (.node (o234 P) (.node (o362 P) .nil .nil) .nil))) (.node (o58 P) (.node (o90 P) (.node (o154 P) (.node (o282 P) .nil .nil) .nil) (.node (o218 P) (.node (o346 P) .nil .nil) .nil)) (.node (o122 P) (.node (o186 P) (.node (o314 P) .nil .nil) .nil) (.node (o250 P) .nil .nil))))) (.node (o14 P) (.node (o22 P) (.node (o38 P) (.node (o70 P) (.node (o134 P) (.node (o262 P) .nil .nil) .nil) (.node (o198 P) (.node (o326 P) .nil .nil) .nil)) (.node (o102 P) (.node (o166 P) (.node (o294 P) .nil .nil) .nil) (.node (o230 P) (.node (o358 P) .nil .nil) .nil))) (.node (o54 P) (.node (o86 P) (.node (o150 P) (.node (o278 P) .nil .nil) .nil) (.node (o214 P) (.node (o342 P) .nil .nil) .nil)) (.node (o118 P) (.node (o182 P) (.node (o310 P) .nil .nil) .nil) (.node (o246 P) .nil .nil)))) (.node (o30 P) (.node (o46 P) (.node (o78 P) (.node (o142 P) (.node (o270 P) .nil .nil) .nil) (.node (o206 P) (.node (o334 P) .nil .nil) .nil)) (.node (o110 P) (.node (o174 P) (.node (o302 P) .nil .nil) .nil) (.node (o238 P) .nil .nil))) (.node (o62 P) (.node (o94 P) (.node (o158 P) (.node (o286 P) .nil .nil) .nil) (.node (o222 P) (.node (o350 P) .nil .nil) .nil)) (.node (o126 P) (.node (o190 P) (.node (o318 P) .nil .nil) .nil) (.node (o254 P) .nil .nil))))))))
abbrev S4 (w : World) (os : OsState) : SharedT := ⟨T4 w.params, (nat_lit 365), (boot_heap w.params).life, .mk [], boot_drawn, (nat_lit 656), os⟩
def T5 (P : Params) : BT := (.node (boot_o_0 P) (.node (boot_o_1 P) (.node (o3v3 P) (.node (boot_o_7 P) (.node (o15 P) (.node (o31v1 P) (.node (o63 P) (.node (o127 P) (.node (o255 P) .nil .nil) (.node (o383 P) .nil .nil)) (.node (o191 P) (.node (o319 P) .nil .nil) .nil)) (.node (o95 P) (.node (o159 P) (.node (o287 P) .nil .nil) (.node (o415 P) .nil .nil)) (.node (o223 P) (.node (o351 P) .nil .nil) .nil))) (.node (o47 P) (.node (o79 P) (.node (o143 P) (.node (o271 P) .nil .nil) (.node (o399 P) .nil .nil)) (.node (o207 P) (.node (o335 P) .nil .nil) .nil)) (.node (o111 P) (.node (o175 P) (.node (o303 P) .nil .nil) (.node (o431 P) .nil .nil)) (.node (o239 P) (.node (o367 P) .nil .nil) .nil)))) (.node (o23 P) (.node (o39 P) (.node (o71 P) (.node (o135 P) (.node (o263 P) .nil .nil) (.node (o391 P) .nil .nil)) (.node (o199 P) (.node (o327 P) .nil .nil) .nil)) (.node (o103 P) (.node (o167 P) (.node (o295 P) .nil .nil) (.node (o423 P) .nil .nil)) (.node (o231 P) (.node (o359 P) .nil .nil) .nil))) (.node (o55 P) (.node (o87 P) (.node (o151 P) (.node (o279 P) .nil .nil) (.node (o407 P) .nil .nil)) (.node (o215 P) (.node (o343 P) .nil .nil) .nil)) (.node (o119 P) (.node (o183 P) (.node (o311 P) .nil .nil) .nil) (.node (o247 P) (.node (o375 P) .nil .nil) .nil))))) (.node (o11 P) (.node (o19 P) (.node (o35 P) (.node (o67 P) (.node (o131 P) (.node (o259 P) .nil .nil) (.node (o387 P) .nil .nil)) (.node (o195 P) (.node (o323 P) .nil .nil) .nil)) (.node (o99 P) (.node (o163 P) (.node (o291 P) .nil .nil) (.node (o419 P) .nil .nil)) (.node (o227 P) (.node (o355 P) .nil .nil) .nil))) (.node (o51 P) (.node (o83 P) (.node (o147 P) (.node (o275 P) .nil .nil) (.node (o403 P) .nil .nil)) (.node (o211 P) (.node (o339 P) .nil .nil) .nil)) (.node (o115 P) (.node (o179 P) (.node (o307 P) .nil .nil) (.node (o435 P) .nil .nil)) (.node (o243 P) (.node (o371 P) .nil .nil) .nil)))) (.node (o27 P) (.node (o43 P) (.node (o75 P) (.node (o139 P) (.node (o267 P) .nil .nil) (.node (o395 P) .nil .nil)) (.node (o203 P) (.node (o331 P) .nil .nil) .nil)) (.node (o107 P) (.node (o171 P) (.node (o299 P) .nil .nil) (.node (o427 P) .nil .nil)) (.node (o235 P) (.node (o363 P) .nil .nil) .nil))) (.node (o59 P) (.node (o91 P) (.node (o155 P) (.node (o283 P) .nil .nil) (.node (o411 P) .nil .nil)) (.node (o219 P) (.node (o347 P) .nil .nil) .nil)) (.node (o123 P) (.node (o187 P) (.node (o315 P) .nil .nil) .nil) (.node (o251 P) (.node (o379 P) .nil .nil) .nil)))))) (.node (boot_o_5 P) (.node (boot_o_9 P) (.node (o17 P) (.node (o33 P) (.node (o65 P) (.node (o129 P) (.node (o257 P) .nil .nil) (.node (o385 P) .nil .nil)) (.node (o193 P) (.node (o321 P) .nil .nil) .nil)) (.node (o97 P) (.node (o161 P) (.node (o289 P) .nil .nil) (.node (o417 P) .nil .nil)) (.node (o225 P) (.node (o353 P) .nil .nil) .nil))) (.node (o49 P) (.node (o81 P) (.node (o145 P) (.node (o273 P) .nil .nil) (.node (o401 P) .nil .nil)) (.node (o209 P) (.node (o337 P) .nil .nil) .nil)) (.node (o113 P) (.node (o177 P) (.node (o305 P) .nil .nil) (.node (o433 P) .nil .nil)) (.node (o241 P) (.node (o369 P) .nil .nil) .nil)))) (.node (o25 P) (.node (o41 P) (.node (o73 P) (.node (o137 P) (.node (o265 P) .nil .nil) (.node (o393 P) .nil .nil)) (.node (o201 P) (.node (o329 P) .nil .nil) .nil)) (.node (o105 P) (.node (o169 P) (.node (o297 P) .nil .nil) (.node (o425 P) .nil .nil)) (.node (o233 P) (.node (o361 P) .nil .nil) .nil))) (.node (o57 P) (.node (o89 P) (.node (o153 P) (.node (o281 P) .nil .nil) (.node (o409 P) .nil .nil)) (.node (o217 P) (.node (o345 P) .nil .nil) .nil)) (.node (o121 P) (.node (o185 P) (.node (o313 P) .nil .nil) .nil) (.node (o249 P) (.node (o377 P) .nil .nil) .nil))))) (.node (o13 P) (.node (o21 P) (.node (o37 P) (.node (o69 P) (.node (o133 P) (.node (o261 P) .nil .nil) (.node (o389 P) .nil .nil)) (.node (o197 P) (.node (o325 P) .nil .nil) .nil)) (.node (o101 P) (.node (o165 P) (.node (o293 P) .nil .nil) (.node (o421 P) .nil .nil)) (.node (o229 P) (.node (o357 P) .nil .nil) .nil))) (.node (o53 P) (.node (o85 P) (.node (o149 P) (.node (o277 P) .nil .nil) (.node (o405 P) .nil .nil)) (.node (o213 P) (.node (o341 P) .nil .nil) .nil)) (.node (o117 P) (.node (o181 P) (.node (o309 P) .nil .nil) (.node (o437 P) .nil .nil)) (.node (o245 P) (.node (o373 P) .nil .nil) .nil)))) (.node (o29 P) (.node (o45 P) (.node (o77 P) (.node (o141 P) (.node (o269 P) .nil .nil) (.node (o397 P) .nil .nil)) (.node (o205 P) (.node (o333 P) .nil .nil) .nil)) (.node (o109 P) (.node (o173 P) (.node (o301 P) .nil .nil) (.node (o429 P) .nil .nil)) (.node (o237 P) (.node (o365 P) .nil .nil) .nil))) (.node (o61 P) (.node (o93 P) (.node (o157 P) (.node (o285 P) .nil .nil) (.node (o413 P) .nil .nil)) (.node (o221 P) (.node (o349 P) .nil .nil) .nil)) (.node (o125 P) (.node (o189 P) (.node (o317 P) .nil .nil) .nil) (.node (o253 P) (.node (o381 P) .nil .nil) .nil))))))) (.node (o2 P) (.node (boot_o_4 P) (.node (boot_o_8 P) (.node (o16 P) (.node (o32 P) (.node (o64 P) (.node (o128 P) (.node (o256 P) .nil .nil) (.node (o384 P) .nil .nil)) (.node (o192 P) (.node (o320 P) .nil .nil) .nil)) (.node (o96 P) (.node (o160 P) (.node (o288 P) .nil .nil) (.node (o416 P) .nil .nil)) (.node (o224 P) (.node (o352 P) .nil .nil) .nil))) (.node (o48 P) (.node (o80 P) (.node (o144 P) (.node (o272 P) .nil .nil) (.node (o400 P) .nil .nil)) (.node (o208 P) (.node (o336 P) .nil .nil) .nil)) (.node (o112 P) (.node (o176 P) (.node (o304 P) .nil .nil) (.node (o432 P) .nil .nil)) (.node (o240 P) (.node (o368 P) .nil .nil) .nil)))) (.node (o24 P) (.node (o40 P) (.node (o72 P) (.node (o136 P) (.node (o264 P) .nil .nil) (.node (o392 P) .nil .nil)) (.node (o200 P) (.node (o328 P) .nil .nil) .nil)) (.node (o104 P) (.node (o168 P) (.node (o296 P) .nil .nil) (.node (o424 P) .nil .nil)) (.node (o232 P) (.node (o360 P) .nil .nil) .nil))) (.node (o56 P) (.node (o88 P) (.node (o152 P) (.node (o280 P) .nil .nil) (.node (o408 P) .nil .nil)) (.node (o216 P) (.node (o344 P) .nil .nil) .nil)) (.node (o120 P) (.node (o184 P) (.node (o312 P) .nil .nil) .nil) (.node (o248 P) (.node (o376 P) .nil .nil) .nil))))) (.node (o12v4 P) (.node (o20 P) (.node (o36 P) (.node (o68 P) (.node (o132 P) (.node (o260 P) .nil .nil) (.node (o388 P) .nil .nil)) (.node (o196 P) (.node (o324 P) .nil .nil) .nil)) (.node (o100 P) (.node (o164 P) (.node (o292 P) .nil .nil) (.node (o420 P) .nil .nil)) (.node (o228 P) (.node (o356 P) .nil .nil) .nil))) (.node (o52 P) (.node (o84 P) (.node (o148 P) (.node (o276 P) .nil .nil) (.node (o404 P) .nil .nil)) (.node (o212 P) (.node (o340 P) .nil .nil) .nil)) (.node (o116 P) (.node (o180 P) (.node (o308 P) .nil .nil) (.node (o436 P) .nil .nil)) (.node (o244 P) (.node (o372 P) .nil .nil) .nil)))) (.node (o28 P) (.node (o44 P) (.node (o76 P) (.node (o140 P) (.node (o268 P) .nil .nil) (.node (o396 P) .nil .nil)) (.node (o204 P) (.node (o332 P) .nil .nil) .nil)) (.node (o108 P) (.node (o172 P) (.node (o300 P) .nil .nil) (.node (o428 P) .nil .nil)) (.node (o236 P) (.node (o364 P) .nil .nil) .nil))) (.node (o60 P) (.node (o92 P) (.node (o156 P) (.node (o284 P) .nil .nil) (.node (o412 P) .nil .nil)) (.node (o220 P) (.node (o348 P) .nil .nil) .nil)) (.node (o124 P) (.node (o188 P) (.node (o316 P) .nil .nil) .nil) (.node (o252 P) (.node (o380 P) .nil .nil) .nil)))))) (.node (boot_o_6 P) (.node (boot_o_10 P) (.node (o18 P) (.node (o34 P) (.node (o66 P) (.node (o130 P) (.node (o258 P) .nil .nil) (.node (o386 P) .nil .nil)) (.node (o194 P) (.node (o322 P) .nil .nil) .nil)) (.node (o98 P) (.node (o162 P) (.node (o290 P) .nil .nil) (.node (o418 P) .nil .nil)) (.node (o226 P) (.node (o354 P) .nil .nil) .nil))) (.node (o50 P) (.node (o82 P) (.node (o146 P) (.node (o274 P) .nil .nil) (.node (o402 P) .nil .nil)) (.node (o210 P) (.node (o338 P) .nil .nil) .nil)) (.node (o114 P) (.node (o178 P) (.node (o306 P) .nil .nil) (.node (o434 P) .nil .nil)) (.node (o242 P) (.node (o370 P) .nil .nil) .nil)))) (.node (o26 P) (.node (o42 P) (.node (o74 P) (.node (o138 P) (.node (o266 P) .nil .nil) (.node (o394 P) .nil .nil)) (.node (o202 P) (.node (o330 P) .nil .nil) .nil)) (.node (o106 P) (.node (o170 P) (.node (o298 P) .nil .nil) (.node (o426 P) .nil .nil)) (.node (o234 P) (.node (o362 P) .nil .nil) .nil))) (.node (o58 P) (.node (o90 P) (.node (o154 P) (.node (o282 P) .nil .nil) (.node (o410 P) .nil .nil)) (.node (o218 P) (.node (o346 P) .nil .nil) .nil)) (.node (o122 P) (.node (o186 P) (.node (o314 P) .nil .nil) .nil) (.node (o250 P) (.node (o378 P) .nil .nil) .nil))))) (.node (o14 P) (.node (o22 P) (.node (o38 P) (.node (o70 P) (.node (o134 P) (.node (o262 P) .nil .nil) (.node (o390 P) .nil .nil)) (.node (o198 P) (.node (o326 P) .nil .nil) .nil)) (.node (o102 P) (.node (o166 P) (.node (o294 P) .nil .nil) (.node (o422 P) .nil .nil)) (.node (o230 P) (.node (o358 P) .nil .nil) .nil))) (.node (o54 P) (.node (o86 P) (.node (o150 P) (.node (o278 P) .nil .nil) (.node (o406 P) .nil .nil)) (.node (o214 P) (.node (o342 P) .nil .nil) .nil)) (.node (o118 P) (.node (o182 P) (.node (o310 P) .nil .nil) (.node (o438 P) .nil .nil)) (.node (o246 P) (.node (o374 P) .nil .nil) .nil)))) (.node (o30 P) (.node (o46 P) (.node (o78 P) (.node (o142 P) (.node (o270 P) .nil .nil) (.node (o398 P) .nil .nil)) (.node (o206 P) (.node (o334 P) .nil .nil) .nil)) (.node (o110 P) (.node (o174 P) (.node (o302 P) .nil .nil) (.node (o430 P) .nil .nil)) (.node (o238 P) (.node (o366 P) .nil .nil) .nil))) (.node (o62 P) (.node (o94 P) (.node (o158 P) (.node (o286 P) .nil .nil) (.node (o414 P) .nil .nil)) (.node (o222 P) (.node (o350 P) .nil .nil) .nil)) (.node (o126 P) (.node (o190 P) (.node (o318 P) .nil .nil) .nil) (.node (o254 P) (.node (o382 P) .nil .nil) .nil))))))))
abbrev S5 (w : World) (os : OsState) : SharedT := ⟨T5 w.params, (nat_lit 439), (boot_heap w.params).life, .mk [], boot_drawn, (nat_lit 767), os⟩
def T6 (P : Params) : BT := (.node (boot_o_0 P) (.node (boot_o_1 P) (.node (o3v4 P) (.node (boot_o_7 P) (.node (o15 P) (.node (o31v1 P) (.node (o63 P) (.node (o127 P) (.node (o255 P) (.node (o511 P) .nil .nil) .nil) (.node (o383 P) .nil .nil)) (.node (o191 P) (.node (o319 P) (.node (o575 P) .nil .nil) .nil) (.node (o447 P) .nil .nil))) (.node (o95 P) (.node (o159 P) (.node (o287 P) (.node (o543 P) .nil .nil) .nil) (.node (o415 P) .nil .nil)) (.node (o223 P) (.node (o351 P) .nil .nil) (.node (o479 P) .nil .nil)))) (.node (o47 P) (.node (o79 P) (.node (o143 P) (.node (o271 P) (.node (o527 P) .nil .nil) .nil) (.node (o399 P) .nil .nil)) (.node (o207 P) (.node (o335 P) (.node (o591 P) .nil .nil) .nil) (.node (o463 P) .nil .nil))) (.node (o111 P) (.node (o175 P) (.node (o303 P) (.node (o559 P) .nil .nil) .nil) (.node (o431 P) .nil .nil)) (.node (o239 P) (.node (o367 P) .nil .nil) (.node (o495 P) .nil .nil))))) (.node (o23 P) (.node (o39 P) (.node (o71 P) (.node (o135 P) (.node (o263 P) (.node (o519 P) .nil .nil) .nil) (.node (o391 P) .nil .nil)) (.node (o199 P) (.node (o327 P) (.node (o583 P) .nil .nil) .nil) (.node (o455 P) .nil .nil))) (.node (o103 P) (.node (o167 P) (.node (o295 P) (.node (o551 P) .nil .nil) .nil) (.node (o423 P) .nil .nil)) (.node (o231 P) (.node (o359 P) .nil .nil) (.node (o487 P) .nil .nil)))) (.node (o55 P) (.node (o87 P) (.node (o151 P) (.node (o279 P) (.node (o535 P) .nil .nil) .nil) (.node (o407 P) .nil .nil)) (.node (o215 P) (.node (o343 P) (.node (o599 P) .nil .nil) .nil) (.node (o471 P) .nil .nil))) (.node (o119 P) (.node (o183 P) (.node (o311 P) (.node (o567 P) .nil .nil) .nil) (.node (o439 P) .nil .nil)) (.node (o247 P) (.node (o375 P) .nil .nil) (.node (o503 P) .nil .nil)))))) (.node (o11 P) (.node (o19 P) (.node (o35 P) (.node (o67 P) (.node (o131 P) (.node (o259 P) (.node (o515 P) .nil .nil) .nil) (.node (o387 P) .nil .nil)) (.node (o195 P) (.node (o323 P) (.node (o579 P) .nil .nil) .nil) (.node (o451 P) .nil .nil))) (.node (o99 P) (.node (o163 P) (.node (o291 P) (.node (o547 P) .nil .nil) .nil) (.node (o419 P) .nil .nil)) (.node (o227 P) (.node (o355 P) .nil .nil) (.node (o483 P) .nil .nil)))) (.node (o51 P) (.node (o83 P) (.node (o147 P) (.node (o275 P) (.node (o531 P) .nil .nil) .nil) (.node (o403 P) .nil .nil)) (.node (o211 P) (.node (o339 P) (.node (o595 P) .nil .nil) .nil) (.node (o467 P) .nil .nil))) (.node (o115 P) (.node (o179 P) (.node (o307 P) (.node (o563 P) .nil .nil) .nil) (.node (o435 P) .nil .nil)) (.node (o243 P) (.node (o371 P) .nil .nil) (.node (o499 P) .nil .nil))))) (.node (o27 P) (.node (o43 P) (.node (o75 P) (.node (o139 P) (.node (o267 P) (.node (o523 P) .nil .nil) .nil) (.node (o395 P) .nil .nil)) (.node (o203 P) (.node (o331 P) (.node (o587 P) .nil .nil) .nil) (.node (o459 P) .nil .nil))) (.node (o107 P) (.node (o171 P) (.node (o299 P) (.node (o555 P) .nil .nil) .nil) (.node (o427 P) .nil .nil)) (.node (o235 P) (.node (o363 P) .nil .nil) (.node (o491 P) .nil .nil)))) (.node (o59 P) (.node (o91 P) (.node (o155 P) (.node (o283 P) (.node (o539 P) .nil .nil) .nil) (.node (o411 P) .nil .nil)) (.node (o219 P) (.node (o347 P) (.node (o603 P) .nil .nil) .nil) (.node (o475 P) .nil .nil))) (.node (o123 P) (.node (o187 P) (.node (o315 P) (.node (o571 P) .nil .nil) .nil) (.node (o443 P) .nil .nil)) (.node (o251 P) (.node (o379 P) .nil .nil) (.node (o507 P) .nil .nil))))))) (.node (boot_o_5 P) (.node (boot_o_9 P) (.node (o17 P) (.node (o33 P) (.node (o65 P) (.node (o129 P) (.node (o257 P) (.node (o513 P) .nil .nil) .nil) (.node (o385 P) .nil .nil)) (.node (o193 P) (.node (o321 P) (.node (o577 P) .nil .nil) .nil) (.node (o449 P) .nil .nil))) (.node (o97 P) (.node (o161 P) (.node (o289 P) (.node (o545 P) .nil .nil) .nil) (.node (o417 P) .nil .nil)) (.node (o225 P) (.node (o353 P) .nil .nil) (.node (o481 P) .nil .nil)))) (.node (o49 P) (.node (o81 P) (.node (o145 P) (.node (o273 P) (.node (o529 P) .nil .nil) .nil) (.node (o401 P) .nil .nil)) (.node (o209 P) (.node (o337 P) (.node (o593 P) .nil .nil) .nil) (.node (o465 P) .nil .nil))) (.node (o113 P) (.node (o177 P) (.node (o305 P) (.node (o561 P) .nil .nil) .nil) (.node (o433 P) .nil .nil)) (.node (o241 P) (.node (o369 P) .nil .nil) (.node (o497 P) .nil .nil))))) (.node (o25 P) (.node (o41 P) (.node (o73 P) (.node (o137 P) (.node (o265 P) (.node (o521 P) .nil .nil) .nil) (.node (o393 P) .nil .nil)) (.node (o201 P) (.node (o329 P) (.node (o585 P) .nil .nil) .nil) (.node (o457 P) .nil .nil))) (.node (o105 P) (.node (o169 P) (.node (o297 P) (.node (o553 P) .nil .nil) .nil) (.node (o425 P) .nil .nil)) (.node (o233 P) (.node (o361 P) .nil .nil) (.node (o489 P) .nil .nil)))) (.node (o57 P) (.node (o89 P) (.node (o153 P) (.node (o281 P) (.node (o537 P) .nil .nil) .nil) (.node (o409 P) .nil .nil)) (.node (o217 P) (.node (o345 P) (.node (o601 P) .nil .nil) .nil) (.node (o473 P) .nil .nil))) (.node (o121 P) (.node (o185 P) (.node (o313 P) (.node (o569 P) .nil .nil) .nil) (.node (o441 P) .nil .nil)) (.node (o249 P) (.node (o377 P) .nil .nil) (.node (o505 P) .nil .nil)))))) (.node (o13 P) (.node (o21 P) (.node (o37 P) (.node (o69 P) (.node (o133 P) (.node (o261 P) (.node (o517 P) .nil .nil) .nil) (.node (o389 P) .nil .nil)) (.node (o197 P) (.node (o325 P) (.node (o581 P) .nil .nil) .nil) (.node (o453 P) .nil .nil))) (.node (o101 P) (.node (o165 P) (.node (o293 P) (.node (o549 P) .nil .nil) .nil) (.node (o421 P) .nil .nil)) (.node (o229 P) (.node (o357 P) .nil .nil) (.node (o485 P) .nil .nil)))) (.node (o53 P) (.node (o85 P) (.node (o149 P) (.node (o277 P) (.node (o533 P) .nil .nil) .nil) (.node (o405 P) .nil .nil)) (.node (o213 P) (.node (o341 P) (.node (o597 P) .nil .nil) .nil) (.node (o469 P) .nil .nil))) (.node (o117 P) (.node (o181 P) (.node (o309 P) (.node (o565 P) .nil .nil) .nil) (.node (o437 P) .nil .nil)) (.node (o245 P) (.node (o373 P) .nil .nil) (.node (o501 P) .nil .nil))))) (.node (o29 P) (.node (o45 P) (.node (o77 P) (.node (o141 P) (.node (o269 P) (.node (o525 P) .nil .nil) .nil) (.node (o397 P) .nil .nil)) (.node (o205 P) (.node (o333 P) (.node (o589 P) .nil .nil) .nil) (.node (o461 P) .nil .nil))) (.node (o109 P) (.node (o173 P) (.node (o301 P) (.node (o557 P) .nil .nil) .nil) (.node (o429 P) .nil .nil)) (.node (o237 P) (.node (o365 P) .nil .nil) (.node (o493 P) .nil .nil)))) (.node (o61 P) (.node (o93 P) (.node (o157 P) (.node (o285 P) (.node (o541 P) .nil .nil) .nil) (.node (o413 P) .nil .nil)) (.node (o221 P) (.node (o349 P) (.node (o605 P) .nil .nil) .nil) (.node (o477 P) .nil .nil))) (.node (o125 P) (.node (o189 P) (.node (o317 P) (.node (o573 P) .nil .nil) .nil) (.node (o445 P) .nil .nil)) (.node (o253 P) (.node (o381 P) .nil .nil) (.node (o509 P) .nil .nil)))))))) (.node (o2 P) (.node (boot_o_4 P) (.node (boot_o_8 P) (.node (o16 P) (.node (o32 P) (.node (o64 P) (.node (o128 P) (.node (o256 P) (.node (o512 P) .nil .nil) .nil) (.node (o384 P) .nil .nil)) (.node (o192 P) (.node (o320 P) (.node (o576 P) .nil .nil) .nil) (.node (o448 P) .nil .nil))) (.node (o96 P) (.node (o160 P) (.node (o288 P) (.node (o544 P) .nil .nil) .nil) (.node (o416 P) .nil .nil)) (.node (o224 P) (.node (o352 P) .nil .nil) (.node (o480 P) .nil .nil)))) (.node (o48 P) (.node (o80 P) (.node (o144 P) (.node (o272 P) (.node (o528 P) .nil .nil) .nil) (.node (o400 P) .nil .nil)) (.node (o208 P) (.node (o336 P) (.node (o592 P) .nil .nil) .nil) (.node (o464 P) .nil .nil))) (.node (o112 P) (.node (o176 P) (.node (o304 P) (.node (o560 P) .nil .nil) .nil) (.node (o432 P) .nil .nil)) (.node (o240 P) (.node (o368 P) .nil .nil) (.node (o496 P) .nil .nil))))) (.node (o24 P) (.node (o40 P) (.node (o72 P) (.node (o136 P) (.node (o264 P) (.node (o520 P) .nil .nil) .nil) (.node (o392 P) .nil .nil)) (.node (o200 P) (.node (o328 P) (.node (o584 P) .nil .nil) .nil) (.node (o456 P) .nil .nil))) (.node (o104 P) (.node (o168 P) (.node (o296 P) (.node (o552 P) .nil .nil) .nil) (.node (o424 P) .nil .nil)) (.node (o232 P) (.node (o360 P) .nil .nil) (.node (o488 P) .nil .nil)))) (.node (o56 P) (.node (o88 P) (.node (o152 P) (.node (o280 P) (.node (o536 P) .nil .nil) .nil) (.node (o408 P) .nil .nil)) (.node (o216 P) (.node (o344 P) (.node (o600 P) .nil .nil) .nil) (.node (o472 P) .nil .nil))) (.node (o120 P) (.node (o184 P) (.node (o312 P) (.node (o568 P) .nil .nil) .nil) (.node (o440 P) .nil .nil)) (.node (o248 P) (.node (o376 P) .nil .nil) (.node (o504 P) .nil .nil)))))) (.node (o12v5 P) (.node (o20 P) (.node (o36 P) (.node (o68 P) (.node (o132 P) (.node (o260 P) (.node (o516 P) .nil .nil) .nil) (.node (o388 P) .nil .nil)) (.node (o196 P) (.node (o324 P) (.node (o580 P) .nil .nil) .nil) (.node (o452 P) .nil .nil))) (.node (o100 P) (.node (o164 P) (.node (o292 P) (.node (o548 P) .nil .nil) .nil) (.node (o420 P) .nil .nil)) (.node (o228 P) (.node (o356 P) .nil .nil) (.node (o484 P) .nil .nil)))) (.node (o52 P) (.node (o84 P) (.node (o148 P) (.node (o276 P) (.node (o532 P) .nil .nil) .nil) (.node (o404 P) .nil .nil)) (.node (o212 P) (.node (o340 P) (.node (o596 P) .nil .nil) .nil) (.node (o468 P) .nil .nil))) (.node (o116 P) (.node (o180 P) (.node (o308 P) (.node (o564 P) .nil .nil) .nil) (.node (o436 P) .nil .nil)) (.node (o244 P) (.node (o372 P) .nil .nil) (.node (o500 P) .nil .nil))))) (.node (o28 P) (.node (o44 P) (.node (o76 P) (.node (o140 P) (.node (o268 P) (.node (o524 P) .nil .nil) .nil) (.node (o396 P) .nil .nil)) (.node (o204 P) (.node (o332 P) (.node (o588 P) .nil .nil) .nil) (.node (o460 P) .nil .nil))) (.node (o108 P) (.node (o172 P) (.node (o300 P) (.node (o556 P) .nil .nil) .nil) (.node (o428 P) .nil .nil)) (.node (o236 P) (.node (o364 P) .nil .nil) (.node (o492 P) .nil .nil)))) (.node (o60 P) (.node (o92 P) (.node (o156 P) (.node (o284 P) (.node (o540 P) .nil .nil) .nil) (.node (o412 P) .nil .nil)) (.node (o220 P) (.node (o348 P) (.node (o604 P) .nil .nil) .nil) (.node (o476 P) .nil .nil))) (.node (o124 P) (.node (o188 P) (.node (o316 P) (.node (o572 P) .nil .nil) .nil) (.node (o444 P) .nil .nil)) (.node (o252 P) (.node (o380 P) .nil .nil) (.node (o508 P) .nil .nil))))))) (.node (boot_o_6 P) (.node (boot_o_10 P) (.node (o18 P) (.node (o34 P) (.node (o66 P) (.node (o130 P) (.node (o258 P) (.node (o514 P) .nil .nil) .nil) (.node (o386 P) .nil .nil)) (.node (o194 P) (.node (o322 P) (.node (o578 P) .nil .nil) .nil) (.node (o450 P) .nil .nil))) (.node (o98 P) (.node (o162 P) (.node (o290 P) (.node (o546 P) .nil .nil) .nil) (.node (o418 P) .nil .nil)) (.node (o226 P) (.node (o354 P) .nil .nil) (.node (o482 P) .nil .nil)))) (.node (o50 P) (.node (o82 P) (.node (o146 P) (.node (o274 P) (.node (o530 P) .nil .nil) .nil) (.node (o402 P) .nil .nil)) (.node (o210 P) (.node (o338 P) (.node (o594 P) .nil .nil) .nil) (.node (o466 P) .nil .nil))) (.node (o114 P) (.node (o178 P) (.node (o306 P) (.node (o562 P) .nil .nil) .nil) (.node (o434 P) .nil .nil)) (.node (o242 P) (.node (o370 P) .nil .nil) (.node (o498 P) .nil .nil))))) (.node (o26 P) (.node (o42 P) (.node (o74 P) (.node (o138 P) (.node (o266 P) (.node (o522 P) .nil .nil) .nil) (.node (o394 P) .nil .nil)) (.node (o202 P) (.node (o330 P) (.node (o586 P) .nil .nil) .nil) (.node (o458 P) .nil .nil))) (.node (o106 P) (.node (o170 P) (.node (o298 P) (.node (o554 P) .nil .nil) .nil) (.node (o426 P) .nil .nil)) (.node (o234 P) (.node (o362 P) .nil .nil) (.node (o490 P) .nil .nil)))) (.node (o58 P) (.node (o90 P) (.node (o154 P) (.node (o282 P) (.node (o538 P) .nil .nil) .nil) (.node (o410 P) .nil .nil)) (.node (o218 P) (.node (o346 P) (.node (o602 P) .nil .nil) .nil) (.node (o474 P) .nil .nil))) (.node (o122 P) (.node (o186 P) (.node (o314 P) (.node (o570 P) .nil .nil) .nil) (.node (o442 P) .nil .nil)) (.node (o250 P) (.node (o378 P) .nil .nil) (.node (o506 P) .nil .nil)))))) (.node (o14 P) (.node (o22 P) (.node (o38 P) (.node (o70 P) (.node (o134 P) (.node (o262 P) (.node (o518 P) .nil .nil) .nil) (.node (o390 P) .nil .nil)) (.node (o198 P) (.node (o326 P) (.node (o582 P) .nil .nil) .nil) (.node (o454 P) .nil .nil))) (.node (o102 P) (.node (o166 P) (.node (o294 P) (.node (o550 P) .nil .nil) .nil) (.node (o422 P) .nil .nil)) (.node (o230 P) (.node (o358 P) .nil .nil) (.node (o486 P) .nil .nil)))) (.node (o54 P) (.node (o86 P) (.node (o150 P) (.node (o278 P) (.node (o534 P) .nil .nil) .nil) (.node (o406 P) .nil .nil)) (.node (o214 P) (.node (o342 P) (.node (o598 P) .nil .nil) .nil) (.node (o470 P) .nil .nil))) (.node (o118 P) (.node (o182 P) (.node (o310 P) (.node (o566 P) .nil .nil) .nil) (.node (o438 P) .nil .nil)) (.node (o246 P) (.node (o374 P) .nil .nil) (.node (o502 P) .nil .nil))))) (.node (o30 P) (.node (o46 P) (.node (o78 P) (.node (o142 P) (.node (o270 P) (.node (o526 P) .nil .nil) .nil) (.node (o398 P) .nil .nil)) (.node (o206 P) (.node (o334 P) (.node (o590 P) .nil .nil) .nil) (.node (o462 P) .nil .nil))) (.node (o110 P) (.node (o174 P) (.node (o302 P) (.node (o558 P) .nil .nil) .nil) (.node (o430 P) .nil .nil)) (.node (o238 P) (.node (o366 P) .nil .nil) (.node (o494 P) .nil .nil)))) (.node (o62 P) (.node (o94 P) (.node (o158 P) (.node (o286 P) (.node (o542 P) .nil .nil) .nil) (.node (o414 P) .nil .nil)) (.node (o222 P) (.node (o350 P) (.node (o606 P) .nil .nil) .nil) (.node (o478 P) .nil .nil))) (.node (o126 P) (.node (o190 P) (.node (o318 P) (.node (o574 P) .nil .nil) .nil) (.node (o446 P) .nil .nil)) (.node (o254 P) (.node (o382 P) .nil .nil) (.node (o510 P) .nil .nil)))))))))
abbrev S6 (w : World) (os : OsState) : SharedT := ⟨T6 w.params, (nat_lit 607), (boot_heap w.params).life, .mk [], boot_drawn, (nat_lit 980), os⟩
def T7 (P : Params) : BT := (.node (boot_o_0 P) (.node (boot_o_1 P) (.node (o3v5 P) (.node (boot_o_7 P) (.node (o15 P) (.node (o31v1 P) (.node (o63 P) (.node (o127 P) (.node (o255 P) (.node (o511 P) .nil .nil) (.node (o767 P) .nil .nil)) (.node (o383 P) (.node (o639 P) .nil .nil) .nil)) (.node (o191 P) (.node (o319 P) (.node (o575 P) .nil .nil) .nil) (.node (o447 P) (.node (o703 P) .nil .nil) .nil))) (.node (o95 P) (.node (o159 P) (.node (o287 P) (.node (o543 P) .nil .nil) .nil) (.node (o415 P) (.node (o671 P) .nil .nil) .nil)) (.node (o223 P) (.node (o351 P) (.node (o607 P) .nil .nil) .nil) (.node (o479 P) (.node (o735 P) .nil .nil) .nil)))) (.node (o47 P) (.node (o79 P) (.node (o143 P) (.node (o271 P) (.node (o527 P) .nil .nil) (.node (o783 P) .nil .nil)) (.node (o399 P) (.node (o655 P) .nil .nil) .nil)) (.node (o207 P) (.node (o335 P) (.node (o591 P) .nil .nil) .nil) (.node (o463 P) (.node (o719 P) .nil .nil) .nil))) (.node (o111 P) (.node (o175 P) (.node (o303 P) (.node (o559 P) .nil .nil) .nil) (.node (o431 P) (.node (o687 P) .nil .nil) .nil)) (.node (o239 P) (.node (o367 P) (.node (o623 P) .nil .nil) .nil) (.node (o495 P) (.node (o751 P) .nil .nil) .nil))))) (.node (o23 P) (.node (o39 P) (.node (o71 P) (.node (o135 P) (.node (o263 P) (.node (o519 P) .nil .nil) (.node (o775 P) .nil .nil)) (.node (o391 P) (.node (o647 P) .nil .nil) .nil)) (.node (o199 P) (.node (o327 P) (.node (o583 P) .nil .nil) .nil) (.node (o455 P) (.node (o711 P) .nil .nil) .nil))) (.node (o103 P) (.node (o167 P) (.node (o295 P) (.node (o551 P) .nil .nil) .nil) (.node (o423 P) (.node (o679 P) .nil .nil) .nil)) (.node (o231 P) (.node (o359 P) (.node (o615 P) .nil .nil) .nil) (.node (o487 P) (.node (o743 P) .nil .nil) .nil)))) (.node (o55 P) (.node (o87 P) (.node (o151 P) (.node (o279 P) (.node (o535 P) .nil .nil) .nil) (.node (o407 P) (.node (o663 P) .nil .nil) .nil)) (.node (o215 P) (.node (o343 P) (.node (o599 P) .nil .nil) .nil) (.node (o471 P) (.node (o727 P) .nil .nil) .nil))) (.node (o119 P) (.node (o183 P) (.node (o311 P) (.node (o567 P) .nil .nil) .nil) (.node (o439 P) (.node (o695 P) .nil .nil) .nil)) (.node (o247 P) (.node (o375 P) (.node (o631 P) .nil .nil) .nil) (.node (o503 P) (.node (o759 P) .nil .nil) .nil)))))) (.node (o11 P) (.node (o19 P) (.node (o35 P) (.node (o67 P) (.node (o131 P) (.node (o259 P) (.node (o515 P) .nil .nil) (.node (o771 P) .nil .nil)) (.node (o387 P) (.node (o643 P) .nil .nil) .nil)) (.node (o195 P) (.node (o323 P) (.node (o579 P) .nil .nil) .nil) (.node (o451 P) (.node (o707 P) .nil .nil) .nil))) (.node (o99 P) (.node (o163 P) (.node (o291 P) (.node (o547 P) .nil .nil) .nil) (.node (o419 P) (.node (o675 P) .nil .nil) .nil)) (.node (o227 P) (.node (o355 P) (.node (o611 P) .nil .nil) .nil) (.node (o483 P) (.node (o739 P) .nil .nil) .nil)))) (.node (o51 P) (.node (o83 P) (.node (o147 P) (.node (o275 P) (.node (o531 P) .nil .nil) .nil) (.node (o403 P) (.node (o659 P) .nil .nil) .nil)) (.node (o211 P) (.node (o339 P) (.node (o595 P) .nil .nil) .nil) (.node (o467 P) (.node (o723 P) .nil .nil) .nil))) (.node (o115 P) (.node (o179 P) (.node (o307 P) (.node (o563 P) .nil .nil) .nil) (.node (o435 P) (.node (o691 P) .nil .nil) .nil)) (.node (o243 P) (.node (o371 P) (.node (o627 P) .nil .nil) .nil) (.node (o499 P) (.node (o755 P) .nil .nil) .nil))))) (.node (o27 P) (.node (o43 P) (.node (o75 P) (.node (o139 P) (.node (o267 P) (.node (o523 P) .nil .nil) (.node (o779 P) .nil .nil)) (.node (o395 P) (.node (o651 P) .nil .nil) .nil)) (.node (o203 P) (.node (o331 P) (.node (o587 P) .nil .nil) .nil) (.node (o459 P) (.node (o715 P) .nil .nil) .nil))) (.node (o107 P) (.node (o171 P) (.node (o299 P) (.node (o555 P) .nil .nil) .nil) (.node (o427 P) (.node (o683 P) .nil .nil) .nil)) (.node (o235 P) (.node (o363 P) (.node (o619 P) .nil .nil) .nil) (.node (o491 P) (.node (o747 P) .nil .nil) .nil)))) (.node (o59 P) (.node (o91 P) (.node (o155 P) (.node (o283 P) (.node (o539 P) .nil .nil) .nil) (.node (o411 P) (.node (o667 P) .nil .nil) .nil)) (.node (o219 P) (.node (o347 P) (.node (o603 P) .nil .nil) .nil) (.node (o475 P) (.node (o731 P) .nil .nil) .nil))) (.node (o123 P) (.node (o187 P) (.node (o315 P) (.node (o571 P) .nil .nil) .nil) (.node (o443 P) (.node (o699 P) .nil .nil) .nil)) (.node (o251 P) (.node (o379 P) (.node (o635 P) .nil .nil) .nil) (.node (o507 P) (.node (o763 P) .nil .nil) .nil))))))) (.node (boot_o_5 P) (.node (boot_o_9 P) (.node (o17 P) (.node (o33 P) (.node (o65 P) (.node (o129 P) (.node (o257 P) (.node (o513 P) .nil .nil) (.node (o769 P) .nil .nil)) (.node (o385 P) (.node (o641 P) .nil .nil) .nil)) (.node (o193 P) (.node (o321 P) (.node (o577 P) .nil .nil) .nil) (.node (o449 P) (.node (o705 P) .nil .nil) .nil))) (.node (o97 P) (.node (o161 P) (.node (o289 P) (.node (o545 P) .nil .nil) .nil) (.node (o417 P) (.node (o673 P) .nil .nil) .nil)) (.node (o225 P) (.node (o353 P) (.node (o609 P) .nil .nil) .nil) (.node (o481 P) (.node (o737 P) .nil .nil) .nil)))) (.node (o49 P) (.node (o81 P) (.node (o145 P) (.node (o273 P) (.node (o529 P) .nil .nil) (.node (o785 P) .nil .nil)) (.node (o401 P) (.node (o657 P) .nil .nil) .nil)) (.node (o209 P) (.node (o337 P) (.node (o593 P) .nil .nil) .nil) (.node (o465 P) (.node (o721 P) .nil .nil) .nil))) (.node (o113 P) (.node (o177 P) (.node (o305 P) (.node (o561 P) .nil .nil) .nil) (.node (o433 P) (.node (o689 P) .nil .nil) .nil)) (.node (o241 P) (.node (o369 P) (.node (o625 P) .nil .nil) .nil) (.node (o497 P) (.node (o753 P) .nil .nil) .nil))))) (.node (o25 P) (.node (o41 P) (.node (o73 P) (.node (o137 P) (.node (o265 P) (.node (o521 P) .nil .nil) (.node (o777 P) .nil .nil)) (.node (o393 P) (.node (o649 P) .nil .nil) .nil)) (.node (o201 P) (.node (o329 P) (.node (o585 P) .nil .nil) .nil) (.node (o457 P) (.node (o713 P) .nil .nil) .nil))) (.node (o105 P) (.node (o169 P) (.node (o297 P) (.node (o553 P) .nil .nil) .nil) (.node (o425 P) (.node (o681 P) .nil .nil) .nil)) (.node (o233 P) (.node (o361 P) (.node (o617 P) .nil .nil) .nil) (.node (o489 P) (.node (o745 P) .nil .nil) .nil)))) (.node (o57 P) (.node (o89 P) (.node (o153 P) (.node (o281 P) (.node (o537 P) .nil .nil) .nil) (.node (o409 P) (.node (o665 P) .nil .nil) .nil)) (.node (o217 P) (.node (o345 P) (.node (o601 P) .nil .nil) .nil) (.node (o473 P) (.node (o729 P) .nil .nil) .nil))) (.node (o121 P) (.node (o185 P) (.node (o313 P) (.node (o569 P) .nil .nil) .nil) (.node (o441 P) (.node (o697 P) .nil .nil) .nil)) (.node (o249 P) (.node (o377 P) (.node (o633 P) .nil .nil) .nil) (.node (o505 P) (.node (o761 P) .nil .nil) .nil)))))) (.node (o13 P) (.node (o21 P) (.node (o37 P) (.node (o69 P) (.node (o133 P) (.node (o261 P) (.node (o517 P) .nil .nil) (.node (o773 P) .nil .nil)) (.node (o389 P) (.node (o645 P) .nil .nil) .nil)) (.node (o197 P) (.node (o325 P) (.node (o581 P) .nil .nil) .nil) (.node (o453 P) (.node (o709 P) .nil .nil) .nil))) (.node (o101 P) (.node (o165 P) (.node (o293 P) (.node (o549 P) .nil .nil) .nil) (.node (o421 P) (.node (o677 P) .nil .nil) .nil)) (.node (o229 P) (.node (o357 P) (.node (o613 P) .nil .nil) .nil) (.node (o485 P) (.node (o741 P) .nil .nil) .nil)))) (.node (o53 P) (.node (o85 P) (.node (o149 P) (.node (o277 P) (.node (o533 P) .nil .nil) .nil) (.node (o405 P) (.node (o661 P) .nil .nil) .nil)) (.node (o213 P) (.node (o341 P) (.node (o597 P) .nil .nil) .nil) (.node (o469 P) (.node (o725 P) .nil .nil) .nil))) (.node (o117 P) (.node (o181 P) (.node (o309 P) (.node (o565 P) .nil .nil) .nil) (.node (o437 P) (.node (o693 P) .nil .nil) .nil)) (.node (o245 P) (.node (o373 P) (.node (o629 P) .nil .nil) .nil) (.node (o501 P) (.node (o757 P) .nil .nil) .nil))))) (.node (o29 P) (.node (o45 P) (.node (o77 P) (.node (o141 P) (.node (o269 P) (.node (o525 P) .nil .nil) (.node (o781 P) .nil .nil)) (.node (o397 P) (.node (o653 P) .nil .nil) .nil)) (.node (o205 P) (.node (o333 P) (.node (o589 P) .nil .nil) .nil) (.node (o461 P) (.node (o717 P) .nil .nil) .nil))) (.node (o109 P) (.node (o173 P) (.node (o301 P) (.node (o557 P) .nil .nil) .nil) (.node (o429 P) (.node (o685 P) .nil .nil) .nil)) (.node (o237 P) (.node (o365 P) (.node (o621 P) .nil .nil) .nil) (.node (o493 P) (.node (o749 P) .nil .nil) .nil)))) (.node (o61 P) (.node (o93 P) (.node (o157 P) (.node (o285 P) (.node (o541 P) .nil .nil) .nil) (.node (o413 P) (.node (o669 P) .nil .nil) .nil)) (.node (o221 P) (.node (o349 P) (.node (o605 P) .nil .nil) .nil) (.node (o477 P) (.node (o733 P) .nil .nil) .nil))) (.node (o125 P) (.node (o189 P) (.node (o317 P) (.node (o573 P) .nil .nil) .nil) (.node (o445 P) (.node (o701 P) .nil .nil) .nil)) (.node (o253 P) (.node (o381 P) (.node (o637 P) .nil .nil) .nil) (.node (o509 P) (.node (o765 P) .nil .nil) .nil)))))))) (.node (o2 P) (.node (boot_o_4 P) (.node (boot_o_8 P) (.node (o16 P) (.node (o32 P) (.node (o64 P) (.node (o128 P) (.node (o256 P) (.node (o512 P) .nil .nil) (.node (o768 P) .nil .nil)) (.node (o384 P) (.node (o640 P) .nil .nil) .nil)) (.node (o192 P) (.node (o320 P) (.node (o576 P) .nil .nil) .nil) (.node (o448 P) (.node (o704 P) .nil .nil) .nil))) (.node (o96 P) (.node (o160 P) (.node (o288 P) (.node (o544 P) .nil .nil) .nil) (.node (o416 P) (.node (o672 P) .nil .nil) .nil)) (.node (o224 P) (.node (o352 P) (.node (o608 P) .nil .nil) .nil) (.node (o480 P) (.node (o736 P) .nil .nil) .nil)))) (.node (o48 P) (.node (o80 P) (.node (o144 P) (.node (o272 P) (.node (o528 P) .nil .nil) (.node (o784 P) .nil .nil)) (.node (o400 P) (.node (o656 P) .nil .nil) .nil)) (.node (o208 P) (.node (o336 P) (.node (o592 P) .nil .nil) .nil) (.node (o464 P) (.node (o720 P) .nil .nil) .nil))) (.node (o112 P) (.node (o176 P) (.node (o304 P) (.node (o560 P) .nil .nil) .nil) (.node (o432 P) (.node (o688 P) .nil .nil) .nil)) (.node (o240 P) (.node (o368 P) (.node (o624 P) .nil .nil) .nil) (.node (o496 P) (.node (o752 P) .nil .nil) .nil))))) (.node (o24 P) (.node (o40 P) (.node (o72 P) (.node (o136 P) (.node (o264 P) (.node (o520 P) .nil .nil) (.node (o776 P) .nil .nil)) (.node (o392 P) (.node (o648 P) .nil .nil) .nil)) (.node (o200 P) (.node (o328 P) (.node (o584 P) .nil .nil) .nil) (.node (o456 P) (.node (o712 P) .nil .nil) .nil))) (.node (o104 P) (.node (o168 P) (.node (o296 P) (.node (o552 P) .nil .nil) .nil) (.node (o424 P) (.node (o680 P) .nil .nil) .nil)) (.node (o232 P) (.node (o360 P) (.node (o616 P) .nil .nil) .nil) (.node (o488 P) (.node (o744 P) .nil .nil) .nil)))) (.node (o56 P) (.node (o88 P) (.node (o152 P) (.node (o280 P) (.node (o536 P) .nil .nil) .nil) (.node (o408 P) (.node (o664 P) .nil .nil) .nil)) (.node (o216 P) (.node (o344 P) (.node (o600 P) .nil .nil) .nil) (.node (o472 P) (.node (o728 P) .nil .nil) .nil))) (.node (o120 P) (.node (o184 P) (.node (o312 P) (.node (o568 P) .nil .nil) .nil) (.node (o440 P) (.node (o696 P) .nil .nil) .nil)) (.node (o248 P) (.node (o376 P) (.node (o632 P) .nil .nil) .nil) (.node (o504 P) (.node (o760 P) .nil .nil) .nil)))))) (.node (o12v6 P) (.node (o20 P) (.node (o36 P) (.node (o68 P) (.node (o132 P) (.node (o260 P) (.node (o516 P) .nil .nil) (.node (o772 P) .nil .nil)) (.node (o388 P) (.node (o644 P) .nil .nil) .nil)) (.node (o196 P) (.node (o324 P) (.node (o580 P) .nil .nil) .nil) (.node (o452 P) (.node (o708 P) .nil .nil) .nil))) (.node (o100 P) (.node (o164 P) (.node (o292 P) (.node (o548 P) .nil .nil) .nil) (.node (o420 P) (.node (o676 P) .nil .nil) .nil)) (.node (o228 P) (.node (o356 P) (.node (o612 P) .nil .nil) .nil) (.node (o484 P) (.node (o740 P) .nil .nil) .nil)))) (.node (o52 P) (.node (o84 P) (.node (o148 P) (.node (o276 P) (.node (o532 P) .nil .nil) .nil) (.node (o404 P) (.node (o660 P) .nil .nil) .nil)) (.node (o212 P) (.node (o340 P) (.node (o596 P) .nil .nil) .nil) (.node (o468 P) (.node (o724 P) .nil .nil) .nil))) (.node (o116 P) (.node (o180 P) (.node (o308 P) (.node (o564 P) .nil .nil) .nil) (.node (o436 P) (.node (o692 P) .nil .nil) .nil)) (.node (o244 P) (.node (o372 P) (.node (o628 P) .nil .nil) .nil) (.node (o500 P) (.node (o756 P) .nil .nil) .nil))))) (.node (o28 P) (.node (o44 P) (.node (o76 P) (.node (o140 P) (.node (o268 P) (.node (o524 P) .nil .nil) (.node (o780 P) .nil .nil)) (.node (o396 P) (.node (o652 P) .nil .nil) .nil)) (.node (o204 P) (.node (o332 P) (.node (o588 P) .nil .nil) .nil) (.node (o460 P) (.node (o716 P) .nil .nil) .nil))) (.node (o108 P) (.node (o172 P) (.node (o300 P) (.node (o556 P) .nil .nil) .nil) (.node (o428 P) (.node (o684 P) .nil .nil) .nil)) (.node (o236 P) (.node (o364 P) (.node (o620 P) .nil .nil) .nil) (.node (o492 P) (.node (o748 P) .nil .nil) .nil)))) (.node (o60 P) (.node (o92 P) (.node (o156 P) (.node (o284 P) (.node (o540 P) .nil .nil) .nil) (.node (o412 P) (.node (o668 P) .nil .nil) .nil)) (.node (o220 P) (.node (o348 P) (.node (o604 P) .nil .nil) .nil) (.node (o476 P) (.node (o732 P) .nil .nil) .nil))) (.node (o124 P) (.node (o188 P) (.node (o316 P) (.node (o572 P) .nil .nil) .nil) (.node (o444 P) (.node (o700 P) .nil .nil) .nil)) (.node (o252 P) (.node (o380 P) (.node (o636 P) .nil .nil) .nil) (.node (o508 P) (.node (o764 P) .nil .nil) .nil))))))) (.node (boot_o_6 P) (.node (boot_o_10 P) (.node (o18 P) (.node (o34 P) (.node (o66 P) (.node (o130 P) (.node (o258 P) (.node (o514 P) .nil .nil) (.node (o770 P) .nil .nil)) (.node (o386 P) (.node (o642 P) .nil .nil) .nil)) (.node (o194 P) (.node (o322 P) (.node (o578 P) .nil .nil) .nil) (.node (o450 P) (.node (o706 P) .nil .nil) .nil))) (.node (o98 P) (.node (o162 P) (.node (o290 P) (.node (o546 P) .nil .nil) .nil) (.node (o418 P) (.node (o674 P) .nil .nil) .nil)) (.node (o226 P) (.node (o354 P) (.node (o610 P) .nil .nil) .nil) (.node (o482 P) (.node (o738 P) .nil .nil) .nil)))) (.node (o50 P) (.node (o82 P) (.node (o146 P) (.node (o274 P) (.node (o530 P) .nil .nil) .nil) (.node (o402 P) (.node (o658 P) .nil .nil) .nil)) (.node (o210 P) (.node (o338 P) (.node (o594 P) .nil .nil) .nil) (.node (o466 P) (.node (o722 P) .nil .nil) .nil))) (.node (o114 P) (.node (o178 P) (.node (o306 P) (.node (o562 P) .nil .nil) .nil) (.node (o434 P) (.node (o690 P) .nil .nil) .nil)) (.node (o242 P) (.node (o370 P) (.node (o626 P) .nil .nil) .nil) (.node (o498 P) (.node (o754 P) .nil .nil) .nil))))) (.node (o26 P) (.node (o42 P) (.node (o74 P) (.node (o138 P) (.node (o266 P) (.node (o522 P) .nil .nil) (.node (o778 P) .nil .nil)) (.node (o394 P) (.node (o650 P) .nil .nil) .nil)) (.node (o202 P) (.node (o330 P) (.node (o586 P) .nil .nil) .nil) (.node (o458 P) (.node (o714 P) .nil .nil) .nil))) (.node (o106 P) (.node (o170 P) (.node (o298 P) (.node (o554 P) .nil .nil) .nil) (.node (o426 P) (.node (o682 P) .nil .nil) .nil)) (.node (o234 P) (.node (o362 P) (.node (o618 P) .nil .nil) .nil) (.node (o490 P) (.node (o746 P) .nil .nil) .nil)))) (.node (o58 P) (.node (o90 P) (.node (o154 P) (.node (o282 P) (.node (o538 P) .nil .nil) .nil) (.node (o410 P) (.node (o666 P) .nil .nil) .nil)) (.node (o218 P) (.node (o346 P) (.node (o602 P) .nil .nil) .nil) (.node (o474 P) (.node (o730 P) .nil .nil) .nil))) (.node (o122 P) (.node (o186 P) (.node (o314 P) (.node (o570 P) .nil .nil) .nil) (.node (o442 P) (.node (o698 P) .nil .nil) .nil)) (.node (o250 P) (.node (o378 P) (.node (o634 P) .nil .nil) .nil) (.node (o506 P) (.node (o762 P) .nil .nil) .nil)))))) (.node (o14 P) (.node (o22 P) (.node (o38 P) (.node (o70 P) (.node (o134 P) (.node (o262 P) (.node (o518 P) .nil .nil) (.node (o774 P) .nil .nil)) (.node (o390 P) (.node (o646 P) .nil .nil) .nil)) (.node (o198 P) (.node (o326 P) (.node (o582 P) .nil .nil) .nil) (.node (o454 P) (.node (o710 P) .nil .nil) .nil))) (.node (o102 P) (.node (o166 P) (.node (o294 P) (.node (o550 P) .nil .nil) .nil) (.node (o422 P) (.node (o678 P) .nil .nil) .nil)) (.node (o230 P) (.node (o358 P) (.node (o614 P) .nil .nil) .nil) (.node (o486 P) (.node (o742 P) .nil .nil) .nil)))) (.node (o54 P) (.node (o86 P) (.node (o150 P) (.node (o278 P) (.node (o534 P) .nil .nil) .nil) (.node (o406 P) (.node (o662 P) .nil .nil) .nil)) (.node (o214 P) (.node (o342 P) (.node (o598 P) .nil .nil) .nil) (.node (o470 P) (.node (o726 P) .nil .nil) .nil))) (.node (o118 P) (.node (o182 P) (.node (o310 P) (.node (o566 P) .nil .nil) .nil) (.node (o438 P) (.node (o694 P) .nil .nil) .nil)) (.node (o246 P) (.node (o374 P) (.node (o630 P) .nil .nil) .nil) (.node (o502 P) (.node (o758 P) .nil .nil) .nil))))) (.node (o30 P) (.node (o46 P) (.node (o78 P) (.node (o142 P) (.node (o270 P) (.node (o526 P) .nil .nil) (.node (o782 P) .nil .nil)) (.node (o398 P) (.node (o654 P) .nil .nil) .nil)) (.node (o206 P) (.node (o334 P) (.node (o590 P) .nil .nil) .nil) (.node (o462 P) (.node (o718 P) .nil .nil) .nil))) (.node (o110 P) (.node (o174 P) (.node (o302 P) (.node (o558 P) .nil .nil) .nil) (.node (o430 P) (.node (o686 P) .nil .nil) .nil)) (.node (o238 P) (.node (o366 P) (.node (o622 P) .nil .nil) .nil) (.node (o494 P) (.node (o750 P) .nil .nil) .nil)))) (.node (o62 P) (.node (o94 P) (.node (o158 P) (.node (o286 P) (.node (o542 P) .nil .nil) .nil) (.node (o414 P) (.node (o670 P) .nil .nil) .nil)) (.node (o222 P) (.node (o350 P) (.node (o606 P) .nil .nil) .nil) (.node (o478 P) (.node (o734 P) .nil .nil) .nil))) (.node (o126 P) (.node (o190 P) (.node (o318 P) (.node (o574 P) .nil .nil) .nil) (.node (o446 P) (.node (o702 P) .nil .nil) .nil)) (.node (o254 P) (.node (o382 P) (.node (o638 P) .nil .nil) .nil) (.node (o510 P) (.node (o766 P) .nil .nil) .nil)))))))))
abbrev S7 (w : World) (os : OsState) : SharedT := ⟨T7 w.params, (nat_lit 786), (boot_heap w.params).life, .mk [], boot_drawn, (nat_lit 1223), os⟩
theorem r_boot (w : World) (os : OsState) : bootQ w os (fun s => fore (stQ P0 w) (nat_lit 11) (some (@Value.ref (nat_lit 6))) 12 s (topStub P0)) = some (S0 w os, ⟨denQ tabQ c0, c0, (@Pos.mk (nat_lit 0) (nat_lit 0) (nat_lit 0) (nat_lit 0)), [topFrame q0]⟩) := by kernel_rfl
theorem r_block (w : World) (os : OsState) : seg (stQ P0 w) (nat_lit 11) (some (@Value.ref (nat_lit 6))) 1 (S0 w os) (blockOf b0 env0 c0 (@Pos.mk (nat_lit 0) (nat_lit 0) (nat_lit 0) (nat_lit 0)) [topFrame q0]) = some (.next, S1 w os, c0, (@Pos.mk (nat_lit 0) (nat_lit 0) (nat_lit 0) (nat_lit 0))) := by kernel_rfl
theorem r_cut1 (w : World) (os : OsState) : seg (stQ P0 w) (nat_lit 11) (some (@Value.ref (nat_lit 6))) 1205 (S1 w os) (piecesQ ((b0.drop 0).take 7) env0 c0 (@Pos.mk (nat_lit 0) (nat_lit 0) (nat_lit 0) (nat_lit 0)) [topFrame q0]) = some (.next, S2 w os, c0, (@Pos.mk (nat_lit 19) (nat_lit 0) (nat_lit 22) (nat_lit 26))) := by kernel_rfl
theorem r_cut2 (w : World) (os : OsState) : seg (stQ P0 w) (nat_lit 11) (some (@Value.ref (nat_lit 6))) 1167 (S2 w os) (piecesQ ((b0.drop 7).take 5) env0 c0 (@Pos.mk (nat_lit 19) (nat_lit 0) (nat_lit 22) (nat_lit 26)) [topFrame q0]) = some (.next, S3 w os, c0, (@Pos.mk (nat_lit 37) (nat_lit 0) (nat_lit 40) (nat_lit 26))) := by kernel_rfl
theorem r_cut3 (w : World) (os : OsState) : seg (stQ P0 w) (nat_lit 11) (some (@Value.ref (nat_lit 6))) 1281 (S3 w os) (piecesQ ((b0.drop 12).take 29) env0 c0 (@Pos.mk (nat_lit 37) (nat_lit 0) (nat_lit 40) (nat_lit 26)) [topFrame q0]) = some (.next, S4 w os, c0, (@Pos.mk (nat_lit 122) (nat_lit 0) (nat_lit 123) (nat_lit 111))) := by kernel_rfl
theorem r_cut4 (w : World) (os : OsState) : seg (stQ P0 w) (nat_lit 11) (some (@Value.ref (nat_lit 6))) 380 (S4 w os) (piecesQ ((b0.drop 41).take 14) env0 c0 (@Pos.mk (nat_lit 122) (nat_lit 0) (nat_lit 123) (nat_lit 111)) [topFrame q0]) = some (.next, S5 w os, c0, (@Pos.mk (nat_lit 207) (nat_lit 0) (nat_lit 207) (nat_lit 8))) := by kernel_rfl
theorem r_cut5 (w : World) (os : OsState) : seg (stQ P0 w) (nat_lit 11) (some (@Value.ref (nat_lit 6))) 1259 (S5 w os) (piecesQ ((b0.drop 55).take 7) env0 c0 (@Pos.mk (nat_lit 207) (nat_lit 0) (nat_lit 207) (nat_lit 8)) [topFrame q0]) = some (.next, S6 w os, c0, (@Pos.mk (nat_lit 298) (nat_lit 0) (nat_lit 300) (nat_lit 27))) := by kernel_rfl
theorem r_cut6 (w : World) (os : OsState) : seg (stQ P0 w) (nat_lit 11) (some (@Value.ref (nat_lit 6))) 1282 (S6 w os) (piecesQ ((b0.drop 62).take 11) env0 c0 (@Pos.mk (nat_lit 298) (nat_lit 0) (nat_lit 300) (nat_lit 27)) [topFrame q0]) = some (.next, S7 w os, c0, (@Pos.mk (nat_lit 432) (nat_lit 0) (nat_lit 433) (nat_lit 88))) := by kernel_rfl
abbrev view0 : Program := view P0 [0, 2, 3, 4, 5, 6, 7, 8, 9, 10, 11, 12, 13, 14, 15, 16, 18, 19, 20, 21, 22, 23, 24, 25, 26, 27, 28, 29, 31, 32, 33, 34, 35, 36, 37, 38, 40, 41, 42, 43, 44, 46, 47, 48, 49, 50, 51, 52, 53, 55, 57, 58, 59, 60, 61, 62, 64, 65, 66, 67, 68, 69, 70, 71, 72, 73, 74, 75, 76]
def loose0 : List PySem.Str := ["Ranking", "House"]
def K0 : Params → Frag := fun P => (nat_lit 2, o2 P) :: (nat_lit 3, o3v6 P) :: (nat_lit 15, o15 P) :: (nat_lit 17, o17 P) :: (nat_lit 18, o18 P) :: (nat_lit 20, o20 P) :: (nat_lit 21, o21 P) :: (nat_lit 22, o22 P) :: (nat_lit 29, o29 P) :: (nat_lit 30, o30 P) :: (nat_lit 31, o31v1 P) :: (nat_lit 32, o32 P) :: (nat_lit 35, o35 P) :: (nat_lit 42, o42 P) :: (nat_lit 44, o44 P) :: (nat_lit 45, o45 P) :: (nat_lit 47, o47 P) :: (nat_lit 48, o48 P) :: (nat_lit 49, o49 P) :: (nat_lit 50, o50 P) :: (nat_lit 51, o51 P) :: (nat_lit 54, o54 P) :: (nat_lit 61, o61 P) :: (nat_lit 63, o63 P) :: (nat_lit 64, o64 P) :: (nat_lit 66, o66 P) :: (nat_lit 67, o67 P) :: (nat_lit 68, o68 P) :: (nat_lit 69, o69 P) :: (nat_lit 70, o70 P) :: (nat_lit 73, o73 P) :: (nat_lit 80, o80 P) :: (nat_lit 82, o82 P) :: (nat_lit 83, o83 P) :: (nat_lit 85, o85 P) :: (nat_lit 86, o86 P) :: (nat_lit 87, o87 P) :: (nat_lit 88, o88 P) :: (nat_lit 89, o89 P) :: (nat_lit 92, o92 P) :: (nat_lit 99, o99 P) :: (nat_lit 101, o101 P) :: (nat_lit 102, o102 P) :: (nat_lit 104, o104 P) :: (nat_lit 105, o105 P) :: (nat_lit 106, o106 P) :: (nat_lit 107, o107 P) :: (nat_lit 108, o108 P) :: (nat_lit 111, o111 P) :: (nat_lit 118, o118 P) :: (nat_lit 120, o120 P) :: (nat_lit 121, o121 P) :: (nat_lit 123, o123 P) :: (nat_lit 124, o124 P) :: (nat_lit 125, o125 P) :: (nat_lit 126, o126 P) :: (nat_lit 127, o127 P) :: (nat_lit 130, o130 P) :: (nat_lit 137, o137 P) :: (nat_lit 139, o139 P) :: (nat_lit 140, o140 P) :: (nat_lit 142, o142 P) :: (nat_lit 143, o143 P) :: (nat_lit 144, o144 P) :: (nat_lit 145, o145 P) :: (nat_lit 146, o146 P) :: (nat_lit 149, o149 P) :: (nat_lit 156, o156 P) :: (nat_lit 158, o158 P) :: (nat_lit 159, o159 P) :: (nat_lit 161, o161 P) :: (nat_lit 162, o162 P) :: (nat_lit 163, o163 P) :: (nat_lit 164, o164 P) :: (nat_lit 165, o165 P) :: (nat_lit 168, o168 P) :: (nat_lit 175, o175 P) :: (nat_lit 176, o176 P) :: (nat_lit 177, o177 P) :: (nat_lit 178, o178 P) :: (nat_lit 181, o181 P) :: (nat_lit 188, o188 P) :: (nat_lit 190, o190 P) :: (nat_lit 191, o191 P) :: (nat_lit 193, o193 P) :: (nat_lit 194, o194 P) :: (nat_lit 195, o195 P) :: (nat_lit 196, o196 P) :: (nat_lit 197, o197 P) :: (nat_lit 200, o200 P) :: (nat_lit 207, o207 P) :: (nat_lit 208, o208 P) :: (nat_lit 209, o209 P) :: (nat_lit 210, o210 P) :: (nat_lit 213, o213 P) :: (nat_lit 220, o220 P) :: (nat_lit 222, o222 P) :: (nat_lit 223, o223 P) :: (nat_lit 225, o225 P) :: (nat_lit 226, o226 P) :: (nat_lit 227, o227 P) :: (nat_lit 228, o228 P) :: (nat_lit 229, o229 P) :: (nat_lit 232, o232 P) :: (nat_lit 239, o239 P) :: (nat_lit 241, o241 P) :: (nat_lit 242, o242 P) :: (nat_lit 244, o244 P) :: (nat_lit 245, o245 P) :: (nat_lit 246, o246 P) :: (nat_lit 247, o247 P) :: (nat_lit 248, o248 P) :: (nat_lit 251, o251 P) :: (nat_lit 253, o253 P) :: (nat_lit 254, o254 P) :: (nat_lit 256, o256 P) :: (nat_lit 257, o257 P) :: (nat_lit 258, o258 P) :: (nat_lit 261, o261 P) :: (nat_lit 262, o262 P) :: (nat_lit 263, o263 P) :: (nat_lit 265, o265 P) :: (nat_lit 266, o266 P) :: (nat_lit 268, o268 P) :: (nat_lit 269, o269 P) :: (nat_lit 270, o270 P) :: (nat_lit 272, o272 P) :: (nat_lit 273, o273 P) :: (nat_lit 275, o275 P) :: (nat_lit 276, o276 P) :: (nat_lit 277, o277 P) :: (nat_lit 279, o279 P) :: (nat_lit 280, o280 P) :: (nat_lit 282, o282 P) :: (nat_lit 283, o283 P) :: (nat_lit 284, o284 P) :: (nat_lit 286, o286 P) :: (nat_lit 287, o287 P) :: (nat_lit 289, o289 P) :: (nat_lit 290, o290 P) :: (nat_lit 291, o291 P) :: (nat_lit 293, o293 P) :: (nat_lit 294, o294 P) :: (nat_lit 296, o296 P) :: (nat_lit 297, o297 P) :: (nat_lit 298, o298 P) :: (nat_lit 300, o300 P) :: (nat_lit 301, o301 P) :: (nat_lit 303, o303 P) :: (nat_lit 304, o304 P) :: (nat_lit 305, o305 P) :: (nat_lit 307, o307 P) :: (nat_lit 308, o308 P) :: (nat_lit 310, o310 P) :: (nat_lit 311, o311 P) :: (nat_lit 312, o312 P) :: (nat_lit 314, o314 P) :: (nat_lit 315, o315 P) :: (nat_lit 317, o317 P) :: (nat_lit 318, o318 P) :: (nat_lit 319, o319 P) :: (nat_lit 322, o322 P) :: (nat_lit 323, o323 P) :: (nat_lit 324, o324 P) :: (nat_lit 326, o326 P) :: (nat_lit 327, o327 P) :: (nat_lit 329, o329 P) :: (nat_lit 330, o330 P) :: (nat_lit 331, o331 P) :: (nat_lit 334, o334 P) :: (nat_lit 335, o335 P) :: (nat_lit 336, o336 P) :: (nat_lit 339, o339 P) :: (nat_lit 340, o340 P) :: (nat_lit 341, o341 P) :: (nat_lit 344, o344 P) :: (nat_lit 345, o345 P) :: (nat_lit 346, o346 P) :: (nat_lit 348, o348 P) :: (nat_lit 349, o349 P) :: (nat_lit 351, o351 P) :: (nat_lit 352, o352 P) :: (nat_lit 353, o353 P) :: (nat_lit 355, o355 P) :: (nat_lit 356, o356 P) :: (nat_lit 358, o358 P) :: (nat_lit 359, o359 P) :: (nat_lit 360, o360 P) :: (nat_lit 363, o363 P) :: (nat_lit 364, o364 P) :: (nat_lit 365, o365 P) :: (nat_lit 367, o367 P) :: (nat_lit 368, o368 P) :: (nat_lit 370, o370 P) :: (nat_lit 371, o371 P) :: (nat_lit 372, o372 P) :: (nat_lit 374, o374 P) :: (nat_lit 375, o375 P) :: (nat_lit 377, o377 P) :: (nat_lit 378, o378 P) :: (nat_lit 379, o379 P) :: (nat_lit 381, o381 P) :: (nat_lit 382, o382 P) :: (nat_lit 384, o384 P) :: (nat_lit 385, o385 P) :: (nat_lit 386, o386 P) :: (nat_lit 388, o388 P) :: (nat_lit 389, o389 P) :: (nat_lit 391, o391 P) :: (nat_lit 392, o392 P) :: (nat_lit 393, o393 P) :: (nat_lit 395, o395 P) :: (nat_lit 396, o396 P) :: (nat_lit 398, o398 P) :: (nat_lit 399, o399 P) :: (nat_lit 400, o400 P) :: (nat_lit 403, o403 P) :: (nat_lit 404, o404 P) :: (nat_lit 405, o405 P) :: (nat_lit 408, o408 P) :: (nat_lit 409, o409 P) :: (nat_lit 410, o410 P) :: (nat_lit 412, o412 P) :: (nat_lit 413, o413 P) :: (nat_lit 415, o415 P) :: (nat_lit 416, o416 P) :: (nat_lit 417, o417 P) :: (nat_lit 419, o419 P) :: (nat_lit 420, o420 P) :: (nat_lit 422, o422 P) :: (nat_lit 423, o423 P) :: (nat_lit 424, o424 P) :: (nat_lit 427, o427 P) :: (nat_lit 428, o428 P) :: (nat_lit 429, o429 P) :: (nat_lit 432, o432 P) :: (nat_lit 433, o433 P) :: (nat_lit 434, o434 P) :: (nat_lit 437, o437 P) :: (nat_lit 438, o438 P) :: (nat_lit 446, o446 P) :: (nat_lit 448, o448 P) :: (nat_lit 449, o449 P) :: (nat_lit 451, o451 P) :: (nat_lit 452, o452 P) :: (nat_lit 453, o453 P) :: (nat_lit 455, o455 P) :: (nat_lit 456, o456 P) :: (nat_lit 458, o458 P) :: (nat_lit 459, o459 P) :: (nat_lit 460, o460 P) :: (nat_lit 461, o461 P) :: (nat_lit 462, o462 P) :: (nat_lit 463, o463 P) :: (nat_lit 465, o465 P) :: (nat_lit 466, o466 P) :: (nat_lit 468, o468 P) :: (nat_lit 469, o469 P) :: (nat_lit 470, o470 P) :: (nat_lit 471, o471 P) :: (nat_lit 472, o472 P) :: (nat_lit 473, o473 P) :: (nat_lit 475, o475 P) :: (nat_lit 476, o476 P) :: (nat_lit 478, o478 P) :: (nat_lit 479, o479 P) :: (nat_lit 480, o480 P) :: (nat_lit 481, o481 P) :: (nat_lit 483, o483 P) :: (nat_lit 484, o484 P) :: (nat_lit 486, o486 P) :: (nat_lit 487, o487 P) :: (nat_lit 488, o488 P) :: (nat_lit 489, o489 P) :: (nat_lit 492, o492 P) :: (nat_lit 493, o493 P) :: (nat_lit 494, o494 P) :: (nat_lit 496, o496 P) :: (nat_lit 497, o497 P) :: (nat_lit 499, o499 P) :: (nat_lit 500, o500 P) :: (nat_lit 501, o501 P) :: (nat_lit 503, o503 P) :: (nat_lit 504, o504 P) :: (nat_lit 506, o506 P) :: (nat_lit 507, o507 P) :: (nat_lit 508, o508 P) :: (nat_lit 511, o511 P) :: (nat_lit 512, o512 P) :: (nat_lit 513, o513 P) :: (nat_lit 515, o515 P) :: (nat_lit 516, o516 P) :: (nat_lit 518, o518 P) :: (nat_lit 519, o519 P) :: (nat_lit 520, o520 P) :: (nat_lit 522, o522 P) :: (nat_lit 523, o523 P) :: (nat_lit 525, o525 P) :: (nat_lit 526, o526 P) :: (nat_lit 527, o527 P) :: (nat_lit 529, o529 P) :: (nat_lit 530, o530 P) :: (nat_lit 532, o532 P) :: (nat_lit 533, o533 P) :: (nat_lit 534, o534 P) :: (nat_lit 536, o536 P) :: (nat_lit 537, o537 P) :: (nat_lit 539, o539 P) :: (nat_lit 540, o540 P) :: (nat_lit 541, o541 P) :: (nat_lit 543, o543 P) :: (nat_lit 544, o544 P) :: (nat_lit 546, o546 P) :: (nat_lit 547, o547 P) :: (nat_lit 548, o548 P) :: (nat_lit 550, o550 P) :: (nat_lit 551, o551 P) :: (nat_lit 553, o553 P) :: (nat_lit 554, o554 P) :: (nat_lit 555, o555 P) :: (nat_lit 557, o557 P) :: (nat_lit 558, o558 P) :: (nat_lit 560, o560 P) :: (nat_lit 561, o561 P) :: (nat_lit 562, o562 P) :: (nat_lit 564, o564 P) :: (nat_lit 565, o565 P) :: (nat_lit 567, o567 P) :: (nat_lit 568, o568 P) :: (nat_lit 569, o569 P) :: (nat_lit 570, o570 P) :: (nat_lit 571, o571 P) :: (nat_lit 572, o572 P) :: (nat_lit 573, o573 P) :: (nat_lit 576, o576 P) :: (nat_lit 578, o578 P) :: (nat_lit 579, o579 P) :: (nat_lit 581, o581 P) :: (nat_lit 582, o582 P) :: (nat_lit 583, o583 P) :: (nat_lit 585, o585 P) :: (nat_lit 586, o586 P) :: (nat_lit 588, o588 P) :: (nat_lit 589, o589 P) :: (nat_lit 590, o590 P) :: (nat_lit 592, o592 P) :: (nat_lit 593, o593 P) :: (nat_lit 595, o595 P) :: (nat_lit 596, o596 P) :: (nat_lit 597, o597 P) :: (nat_lit 600, o600 P) :: (nat_lit 601, o601 P) :: (nat_lit 602, o602 P) :: (nat_lit 605, o605 P) :: (nat_lit 606, o606 P) :: (nat_lit 614, o614 P) :: (nat_lit 617, o617 P) :: (nat_lit 618, o618 P) :: (nat_lit 619, o619 P) :: (nat_lit 622, o622 P) :: (nat_lit 623, o623 P) :: (nat_lit 624, o624 P) :: (nat_lit 625, o625 P) :: (nat_lit 626, o626 P) :: (nat_lit 627, o627 P) :: (nat_lit 629, o629 P) :: (nat_lit 630, o630 P) :: (nat_lit 632, o632 P) :: (nat_lit 633, o633 P) :: (nat_lit 634, o634 P) :: (nat_lit 635, o635 P) :: (nat_lit 637, o637 P) :: (nat_lit 638, o638 P) :: (nat_lit 640, o640 P) :: (nat_lit 641, o641 P) :: (nat_lit 642, o642 P) :: (nat_lit 643, o643 P) :: (nat_lit 645, o645 P) :: (nat_lit 646, o646 P) :: (nat_lit 648, o648 P) :: (nat_lit 649, o649 P) :: (nat_lit 650, o650 P) :: (nat_lit 651, o651 P) :: (nat_lit 653, o653 P) :: (nat_lit 654, o654 P) :: (nat_lit 656, o656 P) :: (nat_lit 657, o657 P) :: (nat_lit 658, o658 P) :: (nat_lit 660, o660 P) :: (nat_lit 661, o661 P) :: (nat_lit 663, o663 P) :: (nat_lit 664, o664 P) :: (nat_lit 665, o665 P) :: (nat_lit 668, o668 P) :: (nat_lit 669, o669 P) :: (nat_lit 670, o670 P) :: (nat_lit 673, o673 P) :: (nat_lit 674, o674 P) :: (nat_lit 675, o675 P) :: (nat_lit 677, o677 P) :: (nat_lit 678, o678 P) :: (nat_lit 680, o680 P) :: (nat_lit 681, o681 P) :: (nat_lit 682, o682 P) :: (nat_lit 684, o684 P) :: (nat_lit 685, o685 P) :: (nat_lit 687, o687 P) :: (nat_lit 688, o688 P) :: (nat_lit 689, o689 P) :: (nat_lit 692, o692 P) :: (nat_lit 693, o693 P) :: (nat_lit 694, o694 P) :: (nat_lit 696, o696 P) :: (nat_lit 697, o697 P) :: (nat_lit 699, o699 P) :: (nat_lit 700, o700 P) :: (nat_lit 701, o701 P) :: (nat_lit 704, o704 P) :: (nat_lit 705, o705 P) :: (nat_lit 706, o706 P) :: (nat_lit 708, o708 P) :: (nat_lit 709, o709 P) :: (nat_lit 711, o711 P) :: (nat_lit 712, o712 P) :: (nat_lit 713, o713 P) :: (nat_lit 715, o715 P) :: (nat_lit 716, o716 P) :: (nat_lit 718, o718 P) :: (nat_lit 719, o719 P) :: (nat_lit 720, o720 P) :: (nat_lit 721, o721 P) :: (nat_lit 722, o722 P) :: (nat_lit 723, o723 P) :: (nat_lit 724, o724 P) :: (nat_lit 727, o727 P) :: (nat_lit 729, o729 P) :: (nat_lit 730, o730 P) :: (nat_lit 732, o732 P) :: (nat_lit 733, o733 P) :: (nat_lit 734, o734 P) :: (nat_lit 736, o736 P) :: (nat_lit 737, o737 P) :: (nat_lit 739, o739 P) :: (nat_lit 740, o740 P) :: (nat_lit 741, o741 P) :: (nat_lit 743, o743 P) :: (nat_lit 744, o744 P) :: (nat_lit 746, o746 P) :: (nat_lit 747, o747 P) :: (nat_lit 748, o748 P) :: (nat_lit 750, o750 P) :: (nat_lit 751, o751 P) :: (nat_lit 753, o753 P) :: (nat_lit 754, o754 P) :: (nat_lit 755, o755 P) :: (nat_lit 757, o757 P) :: (nat_lit 758, o758 P) :: (nat_lit 760, o760 P) :: (nat_lit 761, o761 P) :: (nat_lit 762, o762 P) :: (nat_lit 764, o764 P) :: (nat_lit 765, o765 P) :: (nat_lit 767, o767 P) :: (nat_lit 768, o768 P) :: (nat_lit 769, o769 P) :: (nat_lit 772, o772 P) :: (nat_lit 773, o773 P) :: (nat_lit 774, o774 P) :: (nat_lit 776, o776 P) :: (nat_lit 777, o777 P) :: (nat_lit 779, o779 P) :: (nat_lit 780, o780 P) :: (nat_lit 781, o781 P) :: (nat_lit 784, o784 P) :: (nat_lit 785, o785 P) :: (nat_lit 786, o786 P) :: (nat_lit 789, o789 P) :: (nat_lit 790, o790 P) :: (nat_lit 791, o791 P) :: (nat_lit 794, o794 P) :: (nat_lit 795, o795 P) :: (nat_lit 796, o796 P) :: (nat_lit 799, o799 P) :: (nat_lit 800, o800 P) :: (nat_lit 801, o801 P) :: (nat_lit 804, o804 P) :: (nat_lit 805, o805 P) :: []
def as0 : List Addr := [(nat_lit 2), (nat_lit 3), (nat_lit 15), (nat_lit 17), (nat_lit 18), (nat_lit 20), (nat_lit 21), (nat_lit 22), (nat_lit 29), (nat_lit 30), (nat_lit 31), (nat_lit 32), (nat_lit 35), (nat_lit 42), (nat_lit 44), (nat_lit 45), (nat_lit 47), (nat_lit 48), (nat_lit 49), (nat_lit 50), (nat_lit 51), (nat_lit 54), (nat_lit 61), (nat_lit 63), (nat_lit 64), (nat_lit 66), (nat_lit 67), (nat_lit 68), (nat_lit 69), (nat_lit 70), (nat_lit 73), (nat_lit 80), (nat_lit 82), (nat_lit 83), (nat_lit 85), (nat_lit 86), (nat_lit 87), (nat_lit 88), (nat_lit 89), (nat_lit 92), (nat_lit 99), (nat_lit 101), (nat_lit 102), (nat_lit 104), (nat_lit 105), (nat_lit 106), (nat_lit 107), (nat_lit 108), (nat_lit 111), (nat_lit 118), (nat_lit 120), (nat_lit 121), (nat_lit 123), (nat_lit 124), (nat_lit 125), (nat_lit 126), (nat_lit 127), (nat_lit 130), (nat_lit 137), (nat_lit 139), (nat_lit 140), (nat_lit 142), (nat_lit 143), (nat_lit 144), (nat_lit 145), (nat_lit 146), (nat_lit 149), (nat_lit 156), (nat_lit 158), (nat_lit 159), (nat_lit 161), (nat_lit 162), (nat_lit 163), (nat_lit 164), (nat_lit 165), (nat_lit 168), (nat_lit 175), (nat_lit 176), (nat_lit 177), (nat_lit 178), (nat_lit 181), (nat_lit 188), (nat_lit 190), (nat_lit 191), (nat_lit 193), (nat_lit 194), (nat_lit 195), (nat_lit 196), (nat_lit 197), (nat_lit 200), (nat_lit 207), (nat_lit 208), (nat_lit 209), (nat_lit 210), (nat_lit 213), (nat_lit 220), (nat_lit 222), (nat_lit 223), (nat_lit 225), (nat_lit 226), (nat_lit 227), (nat_lit 228), (nat_lit 229), (nat_lit 232), (nat_lit 239), (nat_lit 241), (nat_lit 242), (nat_lit 244), (nat_lit 245), (nat_lit 246), (nat_lit 247), (nat_lit 248), (nat_lit 251), (nat_lit 253), (nat_lit 254), (nat_lit 256), (nat_lit 257), (nat_lit 258), (nat_lit 261), (nat_lit 262), (nat_lit 263), (nat_lit 265), (nat_lit 266), (nat_lit 268), (nat_lit 269), (nat_lit 270), (nat_lit 272), (nat_lit 273), (nat_lit 275), (nat_lit 276), (nat_lit 277), (nat_lit 279), (nat_lit 280), (nat_lit 282), (nat_lit 283), (nat_lit 284), (nat_lit 286), (nat_lit 287), (nat_lit 289), (nat_lit 290), (nat_lit 291), (nat_lit 293), (nat_lit 294), (nat_lit 296), (nat_lit 297), (nat_lit 298), (nat_lit 300), (nat_lit 301), (nat_lit 303), (nat_lit 304), (nat_lit 305), (nat_lit 307), (nat_lit 308), (nat_lit 310), (nat_lit 311), (nat_lit 312), (nat_lit 314), (nat_lit 315), (nat_lit 317), (nat_lit 318), (nat_lit 319), (nat_lit 322), (nat_lit 323), (nat_lit 324), (nat_lit 326), (nat_lit 327), (nat_lit 329), (nat_lit 330), (nat_lit 331), (nat_lit 334), (nat_lit 335), (nat_lit 336), (nat_lit 339), (nat_lit 340), (nat_lit 341), (nat_lit 344), (nat_lit 345), (nat_lit 346), (nat_lit 348), (nat_lit 349), (nat_lit 351), (nat_lit 352), (nat_lit 353), (nat_lit 355), (nat_lit 356), (nat_lit 358), (nat_lit 359), (nat_lit 360), (nat_lit 363), (nat_lit 364), (nat_lit 365), (nat_lit 367), (nat_lit 368), (nat_lit 370), (nat_lit 371), (nat_lit 372), (nat_lit 374), (nat_lit 375), (nat_lit 377), (nat_lit 378), (nat_lit 379), (nat_lit 381), (nat_lit 382), (nat_lit 384), (nat_lit 385), (nat_lit 386), (nat_lit 388), (nat_lit 389), (nat_lit 391), (nat_lit 392), (nat_lit 393), (nat_lit 395), (nat_lit 396), (nat_lit 398), (nat_lit 399), (nat_lit 400), (nat_lit 403), (nat_lit 404), (nat_lit 405), (nat_lit 408), (nat_lit 409), (nat_lit 410), (nat_lit 412), (nat_lit 413), (nat_lit 415), (nat_lit 416), (nat_lit 417), (nat_lit 419), (nat_lit 420), (nat_lit 422), (nat_lit 423), (nat_lit 424), (nat_lit 427), (nat_lit 428), (nat_lit 429), (nat_lit 432), (nat_lit 433), (nat_lit 434), (nat_lit 437), (nat_lit 438), (nat_lit 446), (nat_lit 448), (nat_lit 449), (nat_lit 451), (nat_lit 452), (nat_lit 453), (nat_lit 455), (nat_lit 456), (nat_lit 458), (nat_lit 459), (nat_lit 460), (nat_lit 461), (nat_lit 462), (nat_lit 463), (nat_lit 465), (nat_lit 466), (nat_lit 468), (nat_lit 469), (nat_lit 470), (nat_lit 471), (nat_lit 472), (nat_lit 473), (nat_lit 475), (nat_lit 476), (nat_lit 478), (nat_lit 479), (nat_lit 480), (nat_lit 481), (nat_lit 483), (nat_lit 484), (nat_lit 486), (nat_lit 487), (nat_lit 488), (nat_lit 489), (nat_lit 492), (nat_lit 493), (nat_lit 494), (nat_lit 496), (nat_lit 497), (nat_lit 499), (nat_lit 500), (nat_lit 501), (nat_lit 503), (nat_lit 504), (nat_lit 506), (nat_lit 507), (nat_lit 508), (nat_lit 511), (nat_lit 512), (nat_lit 513), (nat_lit 515), (nat_lit 516), (nat_lit 518), (nat_lit 519), (nat_lit 520), (nat_lit 522), (nat_lit 523), (nat_lit 525), (nat_lit 526), (nat_lit 527), (nat_lit 529), (nat_lit 530), (nat_lit 532), (nat_lit 533), (nat_lit 534), (nat_lit 536), (nat_lit 537), (nat_lit 539), (nat_lit 540), (nat_lit 541), (nat_lit 543), (nat_lit 544), (nat_lit 546), (nat_lit 547), (nat_lit 548), (nat_lit 550), (nat_lit 551), (nat_lit 553), (nat_lit 554), (nat_lit 555), (nat_lit 557), (nat_lit 558), (nat_lit 560), (nat_lit 561), (nat_lit 562), (nat_lit 564), (nat_lit 565), (nat_lit 567), (nat_lit 568), (nat_lit 569), (nat_lit 570), (nat_lit 571), (nat_lit 572), (nat_lit 573), (nat_lit 576), (nat_lit 578), (nat_lit 579), (nat_lit 581), (nat_lit 582), (nat_lit 583), (nat_lit 585), (nat_lit 586), (nat_lit 588), (nat_lit 589), (nat_lit 590), (nat_lit 592), (nat_lit 593), (nat_lit 595), (nat_lit 596), (nat_lit 597), (nat_lit 600), (nat_lit 601), (nat_lit 602), (nat_lit 605), (nat_lit 606), (nat_lit 614), (nat_lit 617), (nat_lit 618), (nat_lit 619), (nat_lit 622), (nat_lit 623), (nat_lit 624), (nat_lit 625), (nat_lit 626), (nat_lit 627), (nat_lit 629), (nat_lit 630), (nat_lit 632), (nat_lit 633), (nat_lit 634), (nat_lit 635), (nat_lit 637), (nat_lit 638), (nat_lit 640), (nat_lit 641), (nat_lit 642), (nat_lit 643), (nat_lit 645), (nat_lit 646), (nat_lit 648), (nat_lit 649), (nat_lit 650), (nat_lit 651), (nat_lit 653), (nat_lit 654), (nat_lit 656), (nat_lit 657), (nat_lit 658), (nat_lit 660), (nat_lit 661), (nat_lit 663), (nat_lit 664), (nat_lit 665), (nat_lit 668), (nat_lit 669), (nat_lit 670), (nat_lit 673), (nat_lit 674), (nat_lit 675), (nat_lit 677), (nat_lit 678), (nat_lit 680), (nat_lit 681), (nat_lit 682), (nat_lit 684), (nat_lit 685), (nat_lit 687), (nat_lit 688), (nat_lit 689), (nat_lit 692), (nat_lit 693), (nat_lit 694), (nat_lit 696), (nat_lit 697), (nat_lit 699), (nat_lit 700), (nat_lit 701), (nat_lit 704), (nat_lit 705), (nat_lit 706), (nat_lit 708), (nat_lit 709), (nat_lit 711), (nat_lit 712), (nat_lit 713), (nat_lit 715), (nat_lit 716), (nat_lit 718), (nat_lit 719), (nat_lit 720), (nat_lit 721), (nat_lit 722), (nat_lit 723), (nat_lit 724), (nat_lit 727), (nat_lit 729), (nat_lit 730), (nat_lit 732), (nat_lit 733), (nat_lit 734), (nat_lit 736), (nat_lit 737), (nat_lit 739), (nat_lit 740), (nat_lit 741), (nat_lit 743), (nat_lit 744), (nat_lit 746), (nat_lit 747), (nat_lit 748), (nat_lit 750), (nat_lit 751), (nat_lit 753), (nat_lit 754), (nat_lit 755), (nat_lit 757), (nat_lit 758), (nat_lit 760), (nat_lit 761), (nat_lit 762), (nat_lit 764), (nat_lit 765), (nat_lit 767), (nat_lit 768), (nat_lit 769), (nat_lit 772), (nat_lit 773), (nat_lit 774), (nat_lit 776), (nat_lit 777), (nat_lit 779), (nat_lit 780), (nat_lit 781), (nat_lit 784), (nat_lit 785), (nat_lit 786), (nat_lit 789), (nat_lit 790), (nat_lit 791), (nat_lit 794), (nat_lit 795), (nat_lit 796), (nat_lit 799), (nat_lit 800), (nat_lit 801), (nat_lit 804), (nat_lit 805)]
theorem as0_eq (P : Params) : as0 = (K0 P).map (·.1) := by kernel_rfl
abbrev X0 : Shared → Bool := fun s => xlAt view0 [] s && recOk (RowW.records (OpenRow.toRowW R0)) s
theorem r_last (w : World) (os : OsState) : (goF (stQ P0 w) (nat_lit 11) (some (@Value.ref (nat_lit 6))) 125 (S7 w os) (restQ (b0.drop 73) env0 c0 (@Pos.mk (nat_lit 432) (nat_lit 0) (nat_lit 433) (nat_lit 88)) [topFrame q0])).map (Looks P0 view0 loose0 X0 as0 w) = some (Good view0 loose0 K0 w) := by kernel_rfl
theorem r_size (w : World) : (boot_heap w.params).objs.size = (nat_lit 11) := by kernel_rfl
theorem r_ann (w : World) : bootAnn w = (some (@Value.ref (nat_lit 6))) := by kernel_rfl
abbrev M0 : Nat := 12 + (1 + (1205 + (1167 + (1281 + (380 + (1259 + (1282 + 125)))))))
theorem left0 : LeftO P0 view0 loose0 X0 (Hook.obs (kHook K0 as0 as0_eq)) (Hook.val (kHook K0 as0 as0_eq)) 14470 true := by
  refine left_cuts (M := M0) (by kernel_rfl) (by rfl) (fun s => by kernel_rfl) (by rfl) fun w os => ?_
  obtain ⟨s, hs, hb⟩ := bootQ_ok (r_boot w os)
  obtain ⟨r, hr, hl⟩ := Option.map_eq_some_iff.mp (r_last w os)
  refine ⟨s, r, hs, ?_, hl⟩
  rw [r_size w, r_ann w]
  exact run_fore hb (run_block (r_block w os) (run_cut (i := 0) (j := 7) (k := 7) (b := b0) rfl (r_cut1 w os) (run_cut (i := 7) (j := 12) (k := 5) (b := b0) rfl (r_cut2 w os) (run_cut (i := 12) (j := 41) (k := 29) (b := b0) rfl (r_cut3 w os) (run_cut (i := 41) (j := 55) (k := 14) (b := b0) rfl (r_cut4 w os) (run_cut (i := 55) (j := 62) (k := 7) (b := b0) rfl (r_cut5 w os) (run_cut (i := 62) (j := 73) (k := 11) (b := b0) rfl (r_cut6 w os) (run_end hr))))))))
end MHead
end
namespace MH
open PySem PySem.Spec PyProof.Rows L2
/-! ### frames -/
theorem _root_.L2.Same.sqt {K : PySem.W.Frag} {H H' : Hp} {a : Addr} {xs : List V} (e : Same H H') (h : SqT K H a xs) : SqT K H' a xs := by
  rcases h with (h | ⟨o, h⟩) | h
  · exact .inl (.inl (e _ _ h))
  · exact .inl (.inr ⟨o, e _ _ h⟩)
  · exact .inr h
theorem _root_.L2.Same.new {H : Hp} {p : Addr} {o : HO} (h : H p = none) : Same H (upd H p o) := fun b x e => by
  rw [upd_ne (ne_of_none e h)]
  exact e
theorem _root_.L2.Same.new' {H H1 : Hp} {p : Addr} {o : HO} (s : Same H H1) (h : H1 p = none) : Same H (upd H1 p o) := s.trans (Same.new h)
/-- all as it was but p -/
def SameB (p : Addr) (H H' : Hp) : Prop := ∀ b o, b ≠ p → H b = some o → H' b = some o
theorem SameB.of {p : Addr} {H H' : Hp} (s : Same H H') : SameB p H H' := fun b o _ e => s b o e
theorem SameB.refl (p : Addr) (H : Hp) : SameB p H H := fun _ _ _ e => e
theorem SameB.trans {p : Addr} {H H1 H2 : Hp} (a : SameB p H H1) (b : SameB p H1 H2) : SameB p H H2 := fun c o n e => b c o n (a c o n e)
theorem SameB.put {p : Addr} {H H1 : Hp} {o : HO} (s : SameB p H H1) : SameB p H (upd H1 p o) := fun b x n e => by
  rw [upd_ne n]
  exact s b x n e
theorem SameB.new {p q : Addr} {H H1 : Hp} {o : HO} (s : SameB p H H1) (h : H1 q = none) : SameB p H (upd H1 q o) := s.trans (SameB.of (Same.new h))
/-- a tuple stands where only a list changed -/
theorem SameB.sqt {K : PySem.W.Frag} {p a : Addr} {H H' : Hp} {xs ys : List V} (s : SameB p H H') (hp : H p = some (.lst ys)) (h : SqT K H a xs) : SqT K H' a xs := by
  rcases h with (h | ⟨o, h⟩) | h
  · exact .inl (.inl (s _ _ (ne_of h hp (by intro q; cases q)) h))
  · exact .inl (.inr ⟨o, s _ _ (ne_of h hp (by intro q; cases q)) h⟩)
  · exact .inr h
theorem tup_of {K : PySem.W.Frag} {H : Hp} {a : Addr} {xs : List V} (h : H a = some (.tup xs)) : SqT K H a xs := .inl (.inl h)
theorem frz_of {K : PySem.W.Frag} {H : Hp} {a : Addr} {o : Obj} {xs : List V} (h : H a = some (.frz o (.tup xs))) : SqT K H a xs := .inl (.inr ⟨o, h⟩)
theorem lst_of {K : PySem.W.Frag} {H : Hp} {a : Addr} {xs : List V} (h : H a = some (.lst xs)) : SqL K H a xs := .inl (.inl h)
theorem le_line {n : Nat} (h : n ≤ 100000) : n ≤ sizeLine := Nat.le_trans h (by decide)
theorem lt_line {n : Nat} (h : n < 100000) : n < sizeLine := Nat.lt_of_lt_of_le h (by decide)
/-! ### the purse -/
def Pu (H : Hp) (p : Addr) : Prop := ∃ x y : Int, H p = some (.lst [.int x, .int y]) ∧ 0 ≤ x ∧ 0 ≤ y ∧ y < 2147483647
theorem Pu.sqt {K : PySem.W.Frag} {H H' : Hp} {p a : Addr} {xs : List V} (u : Pu H p) (s : SameB p H H') (h : SqT K H a xs) : SqT K H' a xs := by
  obtain ⟨x, y, hp, _⟩ := u
  exact s.sqt hp h
theorem Pu.same {H H' : Hp} {p : Addr} (u : Pu H p) (s : Same H H') : Pu H' p := by
  obtain ⟨x, y, hp, h⟩ := u
  exact ⟨x, y, s _ _ hp, h⟩
theorem Pu.put {H : Hp} {p q : Addr} {o u : HO} (a : Pu H p) (hq : H q = some u) (d : ∀ x y : Int, u ≠ .lst [.int x, .int y]) : Pu (upd H q o) p := by
  obtain ⟨x, y, hp, h⟩ := a
  have n : p ≠ q := fun e => by
    subst e
    rw [hp] at hq
    exact d x y (Option.some.inj hq).symm
  exact ⟨x, y, by rw [upd_ne n]; exact hp, h⟩
def spDraw : Sp := fun vs H Q _ => ∃ (p : Addr) (m : Int), vs = [.ref p, .int m] ∧ Pu H p ∧ 0 < m ∧ m < 1000000 ∧ ∀ d H', 0 ≤ d → d < m → SameB p H H' → Pu H' p → Q (.int d) H'
section
variable {P : Program} {w : World} {K : PySem.W.Frag} {mg : Str → Option Value} {base : Heap}
theorem ok_l_draw (T : Tx K mg) : FnOk P w K mg base CX0 9 T.a_l_draw T.fd_l_draw ["_law_purse_here", "_law_many"] spDraw := by
  refine T.F_l_draw.ok sc_l_draw (fun vs H Q E h => ?_) (fun cdv A outer s H vs Q E hr h => ?_)
  · obtain ⟨p, m, rfl, _⟩ := h
    rfl
  · obtain ⟨p, m, rfl, ⟨x, y, hp, hx, hy, hy2⟩, hm, hm2, k⟩ := h
    refine ⟨_, (pss_cons (ps_if (pt_cmpR op_gt (pe_ix ix_list (pv 0) pe_int (fun _ _ => rfl)) pe_int (nomark _))
        (pss_cons (ps_asg (pe_callB call_divmod (by rfl) T.n_divmod (by decide +kernel) (pa_cons (pe_ix ix_list (pv 0) pe_int (fun _ _ => rfl)) (pa_cons (pv 1) pa_nil))) (pg_tup rfl (pgs_cons (pg_sub (pv 0) pe_int set_list) (pgs_cons (pg_name (i := 2) sc_l_draw.nd rfl (Or.inl rfl)) pgs_nil))))
      (pss_one (ps_ret (pv 2))))
        pss_nil)
      (pss_cons (ps_asg (pe_op op_mod (pe_callTy call_int1 (by rfl) T.n_int (by decide +kernel) (pa_cons (pe_op op_add (pe_op op_mul (pe_ix ix_list (pv 0) pe_int (fun _ _ => rfl)) pe_int) pe_int) pa_nil)) pe_int) (pg_sub (pv 0) pe_int set_list))
      (pss_one (ps_ret (pe_op op_mod (pe_callTy call_int1 (by rfl) T.n_int (by decide +kernel) (pa_cons (pe_op op_fdiv (pe_ix ix_list (pv 0) pe_int (fun _ _ => rfl)) pe_int) pa_nil)) (pv 1)))))), ?_⟩
    refine ⟨_, rfl, p, _, 0, _, rfl, rfl, lst_of hp, rfl, _, _, rfl, rfl, _, rfl, ?_⟩
    refine ite2 (fun c => ?_) (fun c => ?_)
    · have c : 0 < x := of_decide_eq_true c
      refine ⟨_, rfl, p, _, 0, _, rfl, rfl, lst_of hp, rfl, _, rfl, _, _, rfl, ⟨hm, by omega⟩, fun t ht => ?_⟩
      have npt : p ≠ t := ne_of_none hp ht
      refine ⟨t, _, rfl, tup_of upd_same, rfl, _, _, rfl, _, rfl, p, _, 0, 0, rfl, rfl, (by rw [upd_ne npt]; exact hp), rfl, _, _, rfl, rfl, ?_⟩
      refine ⟨_, rfl, ?_⟩
      refine k _ _ (Int.emod_nonneg _ (by omega)) (Int.emod_lt_of_pos _ hm) ((SameB.refl p H).new ht).put ⟨x / m, y, ?_, Int.ediv_nonneg hx (by omega), hy, hy2⟩
      rw [upd_same]
      rfl
    · refine ⟨_, rfl, p, _, 1, _, rfl, rfl, lst_of hp, rfl, _, _, rfl, rfl, .inl ⟨by omega, by omega⟩, _, _, rfl, rfl, .inl ⟨_, rfl, _, _, rfl, rfl, (by show (0 : Int) < 2147483647; decide), ?_⟩⟩
      refine ⟨_, rfl, p, _, 1, 1, rfl, rfl, hp, rfl, ?_⟩
      refine ⟨_, rfl, p, _, 1, _, rfl, rfl, lst_of upd_same, rfl, _, _, rfl, rfl, ⟨by decide, by decide⟩, .inl ⟨_, rfl, _, rfl, _, _, rfl, rfl, hm, ?_⟩⟩
      refine k _ _ (Int.emod_nonneg _ (by omega)) (Int.emod_lt_of_pos _ hm) (SameB.refl p H).put ⟨x, _, upd_same, hx, Int.emod_nonneg _ (by decide), Int.emod_lt_of_pos _ (by decide)⟩
end
end MH
namespace MH
open PySem PySem.Spec PyProof.Rows L2
theorem cutV_mem {xs : List V} {lo hi : Option Int} {x : V} (h : x ∈ cutV xs lo hi) : x ∈ xs := List.mem_of_mem_drop (List.mem_of_mem_take h)
def spPurse (K : PySem.W.Frag) : Sp := fun vs H Q _ => ∃ (a : Addr) (ns : List Int) (i : Nat), vs = [.ref a, .int i] ∧ SqL K H a (ns.map V.int) ∧ ns.length ≤ 63 ∧ i < 1000 ∧ ∀ H' p, Same H H' → H p = none → Pu H' p → Q (.ref p) H'
section
variable {P : Program} {w : World} {K : PySem.W.Frag} {mg : Str → Option Value} {base : Heap}
theorem ok_l_purse (T : Tx K mg) : FnOk P w K mg base CX0 9 T.a_l_purse T.fd_l_purse ["_law_script", "_law_spot"] (spPurse K) := by
  refine T.F_l_purse.ok sc_l_purse (fun vs H Q E h => ?_) (fun cdv A outer s H vs Q E hr h => ?_)
  · obtain ⟨a, ns, i, rfl, _⟩ := h
    rfl
  · obtain ⟨a, ns, i, rfl, hS, hlen, hi, k⟩ := h
    refine ⟨_, (pss_cons (ps_set (i := 2) sc_l_purse.nd rfl (Or.inl rfl) (pe_ifExp (pt_cmpR op_lt (pv 1) (pe_callB call_len_seq (by rfl) T.n_len (by decide +kernel) (pa_cons (pv 0) pa_nil)) (nomark _)) (pe_ix ix_list (pv 0) (pv 1) (fun _ _ => rfl)) (pe_op op_mul pe_int (pe_op op_add (pv 1) pe_int))))
      (pss_cons (ps_set (i := 3) sc_l_purse.nd rfl (Or.inl rfl) (pe_op op_add pe_int (pv 1)))
      (pss_cons (ps_for PassesOwn.never rfl (pi_list (pe_op op_cat (pe_slice sl_list (pv 0) po_none (po_some pe_int)) (pe_lst (pa_cons (pv 2) pa_nil)))) (pg_name (i := 4) sc_l_purse.nd rfl (Or.inl rfl))
        (pss_one (ps_set (i := 3) sc_l_purse.nd rfl (Or.inl rfl) (pe_op op_mod (pe_callTy call_int1 (by rfl) T.n_int (by decide +kernel) (pa_cons (pe_op op_add (pe_op op_add (pe_op op_mul (pv 3) pe_int) (pe_op op_mod (pe_callTy call_int1 (by rfl) T.n_int (by decide +kernel) (pa_cons (pv 4) pa_nil)) pe_int)) pe_int) pa_nil)) pe_int))))
      (pss_one (ps_ret (pe_lst (pa_cons (pe_ifExp (pt_cmpR op_ge (pe_callB call_abs (by rfl) T.n_abs (by decide +kernel) (pa_cons (pv 2) pa_nil)) (pe_op op_pow pe_int pe_int) (nomark _)) (pe_callB call_abs (by rfl) T.n_abs (by decide +kernel) (pa_cons (pv 2) pa_nil)) pe_int) (pa_cons (pv 3) pa_nil)))))))), ?_⟩
    refine ⟨_, rfl, _, rfl, a, _, rfl, .inl hS, _, _, rfl, rfl, _, rfl, ?_⟩
    refine ite2 (fun c => ?a1) (fun c => ?a2)
    case' a1 =>
      have c : (i : Int) < ((ns.map V.int).length : Nat) := of_decide_eq_true c
      have c2 : i < ns.length := by
        rw [List.length_map] at c
        omega
      have g : (ns.map V.int)[i]? = some (.int ns[i]) := by
        rw [List.getElem?_map, List.getElem?_eq_getElem c2]
        rfl
      refine ⟨_, rfl, _, rfl, a, _, _, _, rfl, rfl, hS, atI_nat g, ?_⟩
      generalize ns[i] = z
    case' a2 =>
      refine ⟨_, rfl, _, _, rfl, rfl, _, _, rfl, rfl, .inl ⟨by decide, by decide⟩, ?_⟩
      show gName 2 (V.int ((7919 : Int) * ((i : Int) + 5))) _ _ _
      generalize (7919 : Int) * ((i : Int) + 5) = z
    all_goals
      refine ⟨_, rfl, _, _, rfl, rfl, ?_⟩
      refine ⟨_, rfl, 5, rfl, a, _, rfl, hS, fun p np => ?_⟩
      refine ⟨_, rfl, (by show 1 ≤ sizeLine; decide), fun q nq => ?_⟩
      have npq : p ≠ q := fun e => by
        rw [e, upd_same] at nq
        cases nq
      refine ⟨p, q, _, _, rfl, rfl, (by rw [upd_ne npq]; exact upd_same), upd_same, le_line ?_, fun r nr => ?_⟩
      · have q1 := cutV_length (ns.map V.int) none (some 5)
        rw [List.length_map] at q1
        show (cutV (ns.map V.int) none (some 5)).length + 1 ≤ 100000
        omega
      have s1 := ((Same.new np).new' nq).new' nr (o := .lst (cutV (ns.map V.int) none (some 5) ++ [V.int z]))
      refine ⟨r, rfl, ⟨_, lst_of upd_same⟩, for_list (K := K) (a := r) (xs := cutV (ns.map V.int) none (some 5) ++ [V.int z]) (fun j σ H' => ∃ (y : Int) (v : Option V), σ = [some (.ref a), some (.int i), some (.int z), some (.int y), v] ∧ 0 ≤ y ∧ y < 2147483647 ∧ Same H H' ∧ H' r = some (.lst (cutV (ns.map V.int) none (some 5) ++ [V.int z])))
        ⟨(211 : Int) + i, none, rfl, by omega, by omega, s1, upd_same⟩ (fun j σ H' _ ⟨_, _, _, _, _, _, hL⟩ => lst_of hL) ?_ ?_⟩
      · rintro j x σ H' hx ⟨y, v, rfl, h0, h1, s2, hL⟩
        obtain ⟨n, rfl⟩ : ∃ n, x = V.int n := by
          rcases List.mem_append.mp (List.mem_of_getElem? hx) with m | m
          · obtain ⟨n, _, e⟩ := List.mem_map.mp (cutV_mem m)
            exact ⟨n, e.symm⟩
          · exact ⟨z, List.mem_singleton.mp m⟩
        refine ⟨_, rfl, _, _, rfl, rfl, .inl ⟨by omega, by omega⟩, _, rfl, .inl ⟨_, rfl, _, _, rfl, rfl, (by show (0 : Int) < 2147483647; decide), _, _, rfl, rfl, _, _, rfl, rfl, .inl ⟨_, rfl, _, _, rfl, rfl, (by show (0 : Int) < 2147483647; decide), ?_⟩⟩⟩
        exact ⟨_, _, rfl, Int.emod_nonneg _ (by decide), Int.emod_lt_of_pos _ (by decide), s2, hL⟩
      · rintro σ H' ⟨y, v, rfl, h0, h1, s2, hL⟩
        refine ⟨_, rfl, _, rfl, _, _, rfl, rfl, ⟨by decide, by decide, by decide⟩, _, _, rfl, rfl, _, rfl, ?_⟩
        refine ite2 (fun c => ?_) (fun c => ?_)
        · refine ⟨_, rfl, _, rfl, _, rfl, (by show 2 ≤ sizeLine; decide), fun t nt => ?_⟩
          refine k _ _ (s2.new' nt) (s2.free nt) ⟨_, _, upd_same, ?_, h0, h1⟩
          split <;> omega
        · refine ⟨_, rfl, (by show 2 ≤ sizeLine; decide), fun t nt => ?_⟩
          exact k _ _ (s2.new' nt) (s2.free nt) ⟨_, _, upd_same, by omega, h0, h1⟩
end
end MH
namespace MH
open PySem PySem.Spec PyProof.Rows L2
theorem seqIndex_in {d : Int} {n : Nat} (h0 : 0 ≤ d) (h1 : d < n) : seqIndex? d n = some d.toNat := by
  unfold seqIndex?
  simp only
  first
    | (rw [if_pos h0]; rw [if_pos (by omega)])
    | (split <;> simp_all <;> omega)
theorem perm_pop : ∀ {l : List Str} {k : Nat} {z : Str}, l[k]? = some z → (z :: l.eraseIdx k).Perm l
  | [], k, z, h => by simp at h
  | a :: l, 0, z, h => by
    obtain rfl : a = z := Option.some.inj h
    exact List.Perm.refl _
  | a :: l, k + 1, z, h => by
    have ih := perm_pop (l := l) (k := k) (z := z) h
    exact (List.Perm.swap a z _).trans (ih.cons a)
theorem map_erase {α β : Type} (f : α → β) : ∀ (l : List α) (k : Nat), (l.eraseIdx k).map f = (l.map f).eraseIdx k
  | [], k => rfl
  | a :: l, 0 => rfl
  | a :: l, k + 1 => congrArg (f a :: ·) (map_erase f l k)
def spThings (K : PySem.W.Frag) : Sp := fun vs H Q _ => ∃ (p : Addr) (n : Int), vs = [.ref p, .int n] ∧ Pu H p ∧ 0 ≤ n ∧ n ≤ 13 ∧
  ∀ (ss : List Str) (a : Addr) (H' : Hp), ss.Nodup → sortedS ss = true → (∀ z ∈ ss, z ∈ pool) → ss.length = n.toNat → SameB p H H' → Pu H' p → SqT K H' a (ss.map V.str) → Q (.ref a) H'
section
variable {P : Program} {w : World} {K : PySem.W.Frag} {mg : Str → Option Value} {base : Heap}
theorem ok_l_things (T : Tx K mg) : FnOk P w K mg base CX0 10 T.a_l_things T.fd_l_things ["_law_purse_here", "_law_many"] (spThings K) := by
  refine T.F_l_things.ok sc_l_things (fun vs H Q E h => ?_) (fun cdv A outer s H vs Q E hr h => ?_)
  · obtain ⟨p, n, rfl, _⟩ := h
    rfl
  · obtain ⟨p, n, rfl, pu, n0, n13, k⟩ := h
    refine ⟨_, (pss_cons (ps_set (i := 2) sc_l_things.nd rfl (Or.inl rfl) (pe_lst (pa_cons pe_str (pa_cons pe_str (pa_cons pe_str (pa_cons pe_str (pa_cons pe_str (pa_cons pe_str (pa_cons pe_str (pa_cons pe_str (pa_cons pe_str (pa_cons pe_str (pa_cons pe_str (pa_cons pe_str (pa_cons pe_str pa_nil)))))))))))))))
      (pss_cons (ps_set (i := 3) sc_l_things.nd rfl (Or.inl rfl) (pe_lst pa_nil))
      (pss_cons (ps_for PassesOwn.never rfl (pi_range1 (by rfl) T.n_range (pa_cons (pv 1) pa_nil)) (pg_name (i := 4) sc_l_things.nd rfl (Or.inl rfl))
        (pss_one (ps_expr (pe_bm PySem.F.plainAttrs_list PySem.F.slot_list_append PySem.F.type_list_append mt_append (pv 3) (pa_cons (pe_bm PySem.F.plainAttrs_list PySem.F.slot_list_pop PySem.F.type_list_pop mt_popAt (pv 2) (pa_cons (pe_call (ok_l_draw T) (hr.mono (by decide)) rfl T.g_l_draw T.F_l_draw.kp T.b_l_draw .nil pass0 (pa_cons (pv 0) (pa_cons (pe_callB call_len_seq (by rfl) T.n_len (by decide +kernel) (pa_cons (pv 2) pa_nil)) pa_nil))) pa_nil)) pa_nil)))))
      (pss_one (ps_ret (pe_callTy call_tupF (by rfl) T.n_tuple (by decide +kernel) (pa_cons (pe_callB cr_sortedS (by rfl) T.n_sorted (by decide +kernel) (pa_cons (pv 3) pa_nil)) pa_nil))))))), ?_⟩
    obtain ⟨x0, y0, hp0, _⟩ := id pu
    refine ⟨(by show 13 ≤ sizeLine; decide), fun l nl => ?_⟩
    refine ⟨Nat.zero_le _, fun fo nfo => ?_⟩
    have npl : p ≠ l := ne_of_none hp0 nl
    have nlf : l ≠ fo := fun e => by
      rw [e, upd_same] at nfo
      cases nfo
    have nfo' : H fo = none := by
      rw [upd_ne nlf.symm] at nfo
      exact nfo
    have npf : p ≠ fo := ne_of_none hp0 nfo'
    have s0 : Same H (upd (upd H l (.lst (pool.map V.str))) fo (.lst [])) := (Same.new nl).new' nfo
    refine ⟨_, rfl, n, rfl, by omega, by omega, for_range (lo := 0) (n := n.toNat) (fun i σ H' => ∃ (rest found : List Str) (v : Option V), σ = [some (.ref p), some (.int n), some (.ref l), some (.ref fo), v] ∧
      H' l = some (.lst (rest.map V.str)) ∧ H' fo = some (.lst (found.map V.str)) ∧ (rest ++ found).Perm pool ∧ found.length = i ∧ SameB p H H' ∧ Pu H' p)
      ⟨pool, [], none, rfl, (by rw [upd_ne nlf]; exact upd_same), upd_same, List.Perm.refl _, rfl, .of s0, pu.same s0⟩ ?_ ?_⟩
    · rintro i σ H' hi ⟨rest, found, v, rfl, hl, hf, hpm, hlen, sb, pu1⟩
      have hsum : rest.length + found.length = 13 := by
        have := hpm.length_eq
        rw [List.length_append] at this
        exact this
      refine ⟨_, rfl, .inl ⟨rfl, _, lst_of hf⟩, _, rfl, .inl ⟨rfl, _, lst_of hl⟩, _, rfl, _, rfl, l, _, rfl, .inl (lst_of hl), p, _, rfl, pu1, ?_, ?_, fun d H2 d0 d1 sb2 pu2 => ?_⟩
      · rw [List.length_map]
        omega
      · rw [List.length_map]
        omega
      · rw [List.length_map] at d1
        have dk : d.toNat < rest.length := by omega
        have hl2 := sb2 _ _ npl.symm hl
        have hf2 := sb2 _ _ npf.symm hf
        have g : rest[d.toNat]? = some rest[d.toNat] := List.getElem?_eq_getElem dk
        refine ⟨l, _, d, d.toNat, V.str rest[d.toNat], rfl, rfl, hl2, by omega, by omega, seqIndex_in d0 (by rw [List.length_map]; exact d1), ?_, ?_⟩
        · rw [List.getElem?_map, g]
          rfl
        · refine ⟨fo, _, _, rfl, rfl, (by rw [upd_ne nlf.symm]; exact hf2), lt_line (by rw [List.length_map]; omega), ?_⟩
          refine ⟨rest.eraseIdx d.toNat, found ++ [rest[d.toNat]], _, rfl, ?_, ?_, ?_, ?_, ?_, ?_⟩
          · rw [upd_ne nlf, upd_same, map_erase]
          · rw [upd_same, List.map_append]
            rfl
          · refine List.Perm.trans ?_ hpm
            rw [← List.append_assoc]
            exact (List.perm_append_comm (l₂ := [rest[d.toNat]])).trans ((perm_pop g).append_right found)
          · rw [List.length_append, hlen]
            rfl
          · intro b o nb e
            have nbl : b ≠ l := ne_of_none e nl
            have nbf : b ≠ fo := ne_of_none e nfo'
            rw [upd_ne nbf, upd_ne nbl]
            exact sb2 _ _ nb (sb _ _ nb e)
          · obtain ⟨x2, y2, hp2, hh⟩ := pu2
            exact ⟨x2, y2, by rw [upd_ne npf, upd_ne npl]; exact hp2, hh⟩
    · rintro σ H' ⟨rest, found, v, rfl, hl, hf, hpm, hlen, sb, pu1⟩
      have nd : found.Nodup := by
        have : (rest ++ found).Nodup := hpm.nodup_iff.mpr pool_nd
        exact (List.nodup_append.mp this).2.1
      refine ⟨_, rfl, fo, found, rfl, lst_of hf, by omega, fun ys q pm so nq => ⟨q, _, rfl, .inl ⟨lst_of upd_same, fun t ot nt od => ?_⟩⟩⟩
      refine k ys t _ (pm.nodup_iff.mpr nd) so (fun z hz => hpm.subset (List.mem_append_right _ (pm.subset hz))) (by rw [pm.length_eq, hlen]) ((sb.new nq).new nt) ((pu1.same (Same.new nq)).same (Same.new nt)) (frz_of upd_same)
end
end MH
namespace MH
open PySem PySem.Spec PyProof.Rows L2
theorem _root_.L2.SqT.ty {K : PySem.W.Frag} {H : Hp} {a : Addr} {xs : List V} (h : SqT K H a xs) : TyX K H (.ref a) (.type "tuple") := by
  rcases h with (h | ⟨o, h⟩) | ⟨o, its, n, h, c, _⟩
  · exact .base (.tup h)
  · exact .fTuple h
  · exact .kTuple h c
theorem ifT {c : Bool} {A B : Prop} (h : c = true) (a : A) : if c = true then A else B := by
  rw [if_pos h]
  exact a
theorem ifF {c : Bool} {A B : Prop} (h : c = false) (b : B) : if c = true then A else B := by
  rw [h, if_neg Bool.false_ne_true]
  exact b
theorem inV_strs (z : Str) : ∀ ss : List Str, inV (.str z) (ss.map V.str) = decide (z ∈ ss)
  | [] => rfl
  | y :: r => by
    have ih := inV_strs z r
    show (y == z || inV (.str z) (r.map V.str)) = decide (z ∈ y :: r)
    rw [ih]
    by_cases e : y = z
    · subst e
      simp
    · have e2 : ¬ z = y := fun q => e q.symm
      simp [e, e2]
theorem flat_strs (ss : List Str) : (ss.map V.str).all flatV = true := by
  rw [List.all_eq_true]
  intro v hv
  obtain ⟨z, _, rfl⟩ := List.mem_map.mp hv
  rfl
theorem cut_upto (xs : List V) (i : Nat) : cutV xs none (some (i : Int)) = xs.take i := by
  unfold cutV
  rw [HT.sIx_none, HT.sIx_nat, Nat.sub_zero, List.drop_zero]
  rcases Nat.le_total i xs.length with h | h
  · rw [Nat.min_eq_left h]
  · rw [Nat.min_eq_right h, List.take_of_length_le (Nat.le_refl _), List.take_of_length_le h]
theorem cut_from (xs : List V) (i : Nat) : cutV xs (some (i : Int)) none = xs.drop i := by
  unfold cutV
  rw [HT.sIx_none, HT.sIx_nat]
  rcases Nat.le_total i xs.length with h | h
  · rw [Nat.min_eq_left h, List.take_of_length_le]
    rw [List.length_drop]
    exact Nat.le_refl _
  · rw [Nat.min_eq_right h, Nat.sub_self, List.drop_of_length_le h]
    rfl
/-- a slice of a tuple: itself or a new one -/
theorem slA_of {K : PySem.W.Frag} {H : Hp} {a : Addr} {xs : List V} {lo hi : Option Int} {Q : VK} (h : SqT K H a xs) (k : ∀ p H', Same H H' → SqT K H' p (cutV xs lo hi) → Q (.ref p) H') : rSlA K (.ref a) lo hi H Q := by
  refine ⟨a, xs, rfl, h, fun ⟨e1, e2⟩ => ?_, fun _ p np => k p _ (Same.new np) (tup_of upd_same)⟩
  have e : cutV xs lo hi = xs := by
    unfold cutV
    rw [e1, e2, Nat.sub_zero, List.drop_zero, List.take_of_length_le (Nat.le_refl _)]
  exact k a H (Same.refl H) (by rw [e]; exact h)
theorem walk_enumT {K : PySem.W.Frag} {a : Addr} {xs : List V} : Walk (IteT K a) xs.length (fun H => SqT K H a xs) (YPair (fun i => some (.int (i : Nat))) (fun i => xs[i]?)) where
  goes := fun i H hi h => ⟨xs, xs[i], h, by simp [hi]⟩
  stops := fun H h => ⟨xs, h, Nat.le_refl _⟩
  yields := fun i H x H' hi h ⟨T, y, e, n, e2, f⟩ => ⟨T, _, y, e, n, e2, rfl, f _ h⟩
def spIsName : Sp := fun vs H Q _ => ∃ z : Str, vs = [.str z] ∧ z.length ≤ 100000 ∧ ∀ H', Same H H' → Q (.bl (nameOk z)) H'
def spFilled (K : PySem.W.Frag) : Sp := fun vs H Q _ => ∃ (a : Addr) (xs : List V), vs = [.ref a] ∧ SqT K H a xs ∧ Q (.bl (decide (0 < xs.length))) H
structure RowOk (row : List Str) : Prop where
  ne : row ≠ []
  le : row.length ≤ 10
  nd : row.Nodup
  ok : ∀ z ∈ row, nameOk z = true
section
variable {P : Program} {w : World} {K : PySem.W.Frag} {mg : Str → Option Value} {base : Heap}
theorem ok_is_filled_tuple (T : Tx K mg) : FnOk P w K mg base CX0 1 T.a_is_filled_tuple T.fd_is_filled_tuple ["value"] (spFilled K) := by
  refine T.F_is_filled_tuple.ok sc_is_filled_tuple (fun vs H Q E h => ?_) (fun cdv A outer s H vs Q E hr h => ?_)
  · obtain ⟨a, xs, rfl, _⟩ := h
    rfl
  · obtain ⟨a, xs, rfl, hT, k⟩ := h
    refine ⟨_, (pss_one (ps_ret (pe_and (pe_callB call_isi (by rfl) T.n_isinstance (by decide +kernel) (pa_cons (pv 0) (pa_cons (pe_bltn (v := .ty "tuple") (by rfl) T.n_tuple (by decide +kernel) rfl) pa_nil))) (pe_one (pe_cmpR op_gt (pe_callB call_len_seq (by rfl) T.n_len (by decide +kernel) (pa_cons (pv 0) pa_nil)) pe_int (nomark _)))))), ?_⟩
    refine ⟨_, rfl, _, _, _, _, true, rfl, .ty _, hT.ty, kit_ty (by decide +kernel), true, rfl, iteT ?_⟩
    refine ⟨_, rfl, a, _, rfl, .inr hT, _, _, rfl, rfl, ?_⟩
    have e : decide ((0 : Int) < (xs.length : Nat)) = decide (0 < xs.length) := by simp
    show Q (.bl (decide ((0 : Int) < (xs.length : Nat)))) H
    rw [e]
    exact k
theorem ok_is_name (T : Tx K mg) : FnOk P w K mg base CX0 1 T.a_is_name T.fd_is_name ["value"] spIsName := by
  refine T.F_is_name.ok sc_is_name (fun vs H Q E h => ?_) (fun cdv A outer s H vs Q E hr h => ?_)
  · obtain ⟨z, rfl, _⟩ := h
    rfl
  · obtain ⟨z, rfl, hz, k⟩ := h
    refine ⟨_, (pss_cons (ps_if (PW.pt (pw_or (pt_not (pt_val (pe_callB call_isi (by rfl) T.n_isinstance (by decide +kernel) (pa_cons (pv 0) (pa_cons (pe_bltn (v := .ty "str") (by rfl) T.n_str (by decide +kernel) rfl) pa_nil))))) (pw_or1 (pt_not (pt_chain op_le op_le pe_int (pe_callB call_len_str (by rfl) T.n_len (by decide +kernel) (pa_cons (pv 0) pa_nil)) (pe_glob (v := .int 8) rfl T.g_LONGEST_NAME.choose_spec ⟨_, rfl⟩))))))
        (pss_one (ps_ret pe_bl))
        pss_nil)
      (pss_one (ps_ret (pe_and (pe_cmpR op_in_sign (pe_ix ix_str (pv 0) pe_int (fun _ _ => rfl)) (pe_glob (v := .str "abcdefghijklmnopqrstuvwxyz") rfl T.g_LETTERS.choose_spec ⟨_, rfl⟩) (by rfl)) (pe_one (pe_callB (cr_all rfl) (by rfl) T.n_all (by decide +kernel) (pa_cons (pe_lc (own := [("sign", 1)]) (g := gName 1) (tt := tYes) rfl sc_is_name.nd (pi_str (pv 0)) (blkOk_by (own := [("sign", 1)]) (N := names_is_name) (sc := defScope st_is_name) (by decide +kernel)) (fun _ _ _ _ _ => pg_name (i := 1) sc_is_name.nd rfl (Or.inl rfl)) (fun _ _ _ _ _ => pts_nil) (fun _ _ _ _ _ => (pe_or (pe_cmpR op_in_sign (pv 1) (pe_glob (v := .str "abcdefghijklmnopqrstuvwxyz") rfl T.g_LETTERS.choose_spec ⟨_, rfl⟩) (by rfl)) (pe_one (pe_cmpR op_in_sign (pv 1) (pe_glob (v := .str "0123456789") rfl T.g_DIGITS.choose_spec ⟨_, rfl⟩) (by rfl)))))) pa_nil))))))), ?_⟩
    refine ⟨_, rfl, _, _, _, _, true, rfl, .ty _, .base (.str z), kit_ty (by decide +kernel), true, rfl, iteF ?_⟩
    refine ⟨_, rfl, z, rfl, le_line hz, _, _, rfl, rfl, _, rfl, ?_⟩
    by_cases h1 : 1 ≤ z.length
    · refine ifT (decide_eq_true (show (1 : Int) ≤ (z.length : Nat) by omega)) ?_
      refine ⟨_, _, rfl, rfl, _, rfl, ?_⟩
      by_cases h2 : z.length ≤ 8
      · refine ifF (by simp; omega) ?_
        have hne : z.cps.toList ≠ [] := fun e => by
          have : z.cps.size = 0 := by rw [← Array.length_toList, e]; rfl
          have e2 : z.length = z.cps.size := rfl
          omega
        obtain ⟨c0, rest, ec⟩ : ∃ c r, z.cps.toList = c :: r := List.exists_cons_of_ne_nil hne
        have en : nameOk z = (isL c0 && z.cps.toList.all fun c => isL c || isD c) := by
          unfold nameOk
          rw [decide_eq_true h1, decide_eq_true h2, ec]
          rfl
        refine ⟨_, rfl, z, 0, c0, rfl, rfl, le_line hz, (by rw [ec]; exact atI_nat (j := 0) rfl), c0, letters, rfl, rfl, isL c0, rfl, ?_⟩
        cases hc : isL c0 with
        | false =>
          refine iteF ?_
          have z0 := k H (Same.refl H)
          rw [en, hc] at z0
          exact z0
        | true =>
          refine iteT ?_
          refine ⟨_, rfl, z, rfl, fun D nD => lc_it (w := walk_str) (fun i H' => Same H H' ∧ H' D = some (.lst ((z.cps.toList.take i).map fun c => V.bl (isL c || isD c)))) ⟨Same.new nD, upd_same⟩ (fun _ _ _ _ => trivial) ?_ ?_⟩
          · rintro i x H1 H2 hi ⟨s1, e1⟩ ⟨rfl, c, hc, rfl⟩
            refine ⟨rfl, ?_⟩
            refine ⟨_, rfl, c, letters, rfl, rfl, isL c, rfl, ?_⟩
            have done : ∀ b : Bool, b = (isL c || isD c) → ∃ acc, H2 D = some (.lst acc) ∧ acc.length < sizeLine ∧ (Same H (upd H2 D (.lst (acc ++ [V.bl b]))) ∧ (upd H2 D (.lst (acc ++ [V.bl b]))) D = some (.lst ((z.cps.toList.take (i + 1)).map fun c => V.bl (isL c || isD c)))) := fun b hb => by
              refine ⟨_, e1, lt_line ?_, fun q o e => ?_, ?_⟩
              · have : z.cps.toList.length = z.length := rfl
                rw [List.length_map, List.length_take]
                omega
              · rw [upd_ne (ne_of_none e nD)]
                exact s1 _ _ e
              · rw [upd_same, hb]
                have g : z.cps.toList[i]? = some c := by
                  rw [Array.getElem?_toList]
                  exact hc
                rw [List.take_add_one, g, List.map_append]
                rfl
            cases hl : isL c with
            | true => exact iteT (done true (by rw [hl]; rfl))
            | false => exact iteF ⟨_, rfl, c, digits, rfl, rfl, done (isD c) (by rw [hl]; rfl)⟩
          · rintro H1 ⟨s1, e1⟩
            refine ⟨D, z.cps.toList.map fun c => isL c || isD c, rfl, lst_of ?_, ?_⟩
            · have : z.cps.toList.length ≤ z.cps.size := Nat.le_refl _
              rw [e1, List.take_of_length_le this, List.map_map]
              rfl
            · have z0 := k H1 s1
              rw [en, hc] at z0
              have e3 : (z.cps.toList.map fun c => isL c || isD c).all id = z.cps.toList.all fun c => isL c || isD c := by
                rw [List.all_map]
                rfl
              rw [e3]
              exact z0
      · refine ifT (by simp; omega) ?_
        have z0 := k H (Same.refl H)
        have en : nameOk z = false := by
          unfold nameOk
          rw [decide_eq_false h2]
          simp
        rw [en] at z0
        exact z0
    · refine ifF (decide_eq_false (show ¬ (1 : Int) ≤ (z.length : Nat) by omega)) ?_
      refine ⟨_, rfl, iteT ?_⟩
      have z0 := k H (Same.refl H)
      have en : nameOk z = false := by
        unfold nameOk
        rw [decide_eq_false h1]
        rfl
      rw [en] at z0
      exact z0
end
end MH
namespace MH
open PySem PySem.Spec PyProof.Rows L2
theorem str_at {ss : List Str} {i : Nat} {y : V} (h : (ss.map V.str)[i]? = some y) : ∃ z, ss[i]? = some z ∧ y = V.str z := by
  rw [List.getElem?_map] at h
  cases e : ss[i]? with
  | none =>
    rw [e] at h
    cases h
  | some z =>
    rw [e] at h
    exact ⟨z, rfl, (Option.some.inj h).symm⟩
/-- what cannot stand at this place of a row -/
def badQ (row : List Str) (k : Nat) : Bool := decide (10 ≤ k) || (!nameOk (row.getD k "") || decide (row.getD k "" ∈ row.take k))
/-- the first place at which something cannot stand -/
def badS (row : List Str) : Option Nat := (List.range row.length).find? (badQ row)
theorem badS_some {row : List Str} {i : Nat} (hi : i < row.length) (b : badQ row i = true) (h : ∀ j, j < i → badQ row j = false) : badS row = some i := by
  unfold badS
  rw [List.find?_range_eq_some]
  exact ⟨b, List.mem_range.mpr hi, fun j hj => by rw [h j hj]; rfl⟩
theorem badS_none {row : List Str} (h : ∀ j, j < row.length → badQ row j = false) : badS row = none := by
  unfold badS
  rw [List.find?_eq_none]
  intro j hj
  rw [h j (List.mem_range.mp hj)]
  simp
theorem getD_of {row : List Str} {i : Nat} {z : Str} (h : row[i]? = some z) : row.getD i "" = z := by
  rw [List.getD_eq_getElem?_getD, h]
  rfl
def optV : Option Nat → V
  | none => .non
  | some i => .int (i : Nat)
def spFirstS (K : PySem.W.Frag) : Sp := fun vs H Q _ => ∃ (t : Addr) (row : List Str), vs = [.ref t] ∧ SqT K H t (row.map V.str) ∧ (∀ z ∈ row, z.length ≤ 100000) ∧ ∀ H', Same H H' → Q (optV (badS row)) H'
section
variable {P : Program} {w : World} {K : PySem.W.Frag} {mg : Str → Option Value} {base : Heap}
theorem ok_first_wrong_in_row (T : Tx K mg) : FnOk P w K mg base CX0 2 T.a_first_wrong_in_row T.fd_first_wrong_in_row ["row"] (spFirstS K) := by
  refine T.F_first_wrong_in_row.ok sc_first_wrong_in_row (fun vs H Q E h => ?_) (fun cdv A outer s H vs Q E hr h => ?_)
  · obtain ⟨t, row, rfl, _⟩ := h
    rfl
  · obtain ⟨t, row, rfl, hT, hz0, k⟩ := h
    refine ⟨_, (pss_cons (ps_for PassesOwn.never rfl (pi_enumT (by rfl) T.n_enumerate (pa_cons (pv 0) pa_nil)) (pg_tup rfl (pgs_cons (pg_name (i := 1) sc_first_wrong_in_row.nd rfl (Or.inl rfl)) (pgs_cons (pg_name (i := 2) sc_first_wrong_in_row.nd rfl (Or.inl rfl)) pgs_nil)))
        (pss_one (ps_if (PW.pt (pw_or (pt_cmpR op_ge (pv 1) (pe_glob (v := .int 10) rfl T.g_MOST_THINGS.choose_spec ⟨_, rfl⟩) (nomark _)) (pw_or (pt_not (pt_val (pe_call (ok_is_name T) (hr.mono (by decide)) rfl T.g_is_name T.F_is_name.kp T.b_is_name .nil pass0 (pa_cons (pv 2) pa_nil)))) (pw_or1 (pt_cmpR op_in_seq (pv 2) (pe_slice sl_tupA (pv 0) po_none (po_some (pv 1))) (by rfl))))))
        (pss_one (ps_ret (pv 1)))
        pss_nil)))
      (pss_one (ps_ret pe_non))), ?_⟩
    refine ⟨_, rfl, t, _, rfl, hT, for_it walk_enumT (fun i σ H' => Same H H' ∧ (∀ j, j < i → badQ row j = false) ∧ ∃ v1 v2, σ = [some (.ref t), v1, v2]) ⟨Same.refl H, fun j hj => absurd hj (Nat.not_lt_zero j), none, none, rfl⟩ (fun i σ H' _ h => h.1.sqt hT) ?_ ?_⟩
    · rintro i x σ H1 H2 hi ⟨s1, hb, v1, v2, rfl⟩ ⟨p, y1, y2, rfl, np, rfl, e1, e2⟩
      cases e1
      rw [List.length_map] at hi
      obtain ⟨z, hz, rfl⟩ := str_at e2
      have s2 := s1.new' np (o := .tup [.int (i : Nat), .str z])
      refine ⟨p, _, rfl, tup_of upd_same, rfl, _, _, rfl, _, _, rfl, rfl, ?_⟩
      have g := getD_of hz
      refine ⟨_, rfl, _, _, rfl, rfl, _, rfl, ?_⟩
      by_cases h10 : 10 ≤ i
      · refine ifT (decide_eq_true (by omega)) ?_
        have b : badQ row i = true := by
          unfold badQ
          rw [decide_eq_true h10]
          rfl
        have q := k _ s2
        rw [badS_some hi b hb] at q
        exact ⟨_, rfl, q⟩
      · refine ifF (decide_eq_false (by omega)) ?_
        refine ⟨_, rfl, z, rfl, hz0 z (List.mem_of_getElem? hz), fun H2 s3 => ?_⟩
        cases hn : nameOk z with
        | false =>
          refine ⟨false, rfl, iteT ?_⟩
          have b : badQ row i = true := by
            unfold badQ
            rw [g, hn, decide_eq_false h10]
            rfl
          have q := k _ (s2.trans s3)
          rw [badS_some hi b hb] at q
          exact ⟨_, rfl, q⟩
        | true =>
          refine ⟨true, rfl, iteF ?_⟩
          refine ⟨_, rfl, _, rfl, _, rfl, _, rfl, slA_of (s3.sqt (s2.sqt hT)) fun q H3 s4 hq => ?_⟩
          rw [cut_upto, ← List.map_take] at hq
          refine ⟨q, _, rfl, .inr hq, rfl, flat_strs _, ?_⟩
          refine ⟨_, rfl, ?_⟩
          show if inV (.str z) ((row.take i).map V.str) = true then _ else _
          rw [inV_strs]
          by_cases hm : z ∈ row.take i
          · refine ifT (decide_eq_true hm) ?_
            have b : badQ row i = true := by
              unfold badQ
              rw [g, decide_eq_true hm]
              simp
            have q := k _ ((s2.trans s3).trans s4)
            rw [badS_some hi b hb] at q
            exact ⟨_, rfl, q⟩
          · refine ifF (decide_eq_false hm) ⟨((s2.trans s3).trans s4), fun j hj => ?_, _, _, rfl⟩
            rcases Nat.lt_succ_iff_lt_or_eq.mp hj with hj | rfl
            · exact hb j hj
            · unfold badQ
              rw [g, hn, decide_eq_false h10, decide_eq_false hm]
              rfl
    · rintro σ H1 ⟨s1, hb, v1, v2, rfl⟩
      rw [List.length_map] at hb
      have q := k H1 s1
      rw [badS_none hb] at q
      exact q
def spCheckRow (K : PySem.W.Frag) : Sp := fun vs H Q _ => ∃ (t : Addr) (row : List Str), vs = [.ref t] ∧ SqT K H t (row.map V.str) ∧ RowOk row ∧ ∀ H', Same H H' → Q .non H'
theorem pos_of_ne {ss : List Str} (h : ss ≠ []) : decide (0 < (ss.map V.str).length) = true := by
  cases ss with
  | nil => exact absurd rfl h
  | cons a r => rfl
theorem badS_ok {row : List Str} (h : RowOk row) : badS row = none := by
  refine badS_none fun j hj => ?_
  unfold badQ
  rw [getD_of (List.getElem?_eq_getElem hj), h.ok _ (List.getElem_mem hj), decide_eq_false (by have := h.le; omega)]
  have : row[j] ∉ row.take j := fun m => by
    obtain ⟨i, hi, e⟩ := List.mem_iff_getElem.mp m
    rw [List.length_take] at hi
    rw [List.getElem_take] at e
    have := (List.getElem_inj h.nd).mp e
    omega
  rw [decide_eq_false this]
  rfl
theorem ok_check_row (T : Tx K mg) : FnOk P w K mg base CX0 3 T.a_check_row T.fd_check_row ["row"] (spCheckRow K) := by
  refine T.F_check_row.ok sc_check_row (fun vs H Q E h => ?_) (fun cdv A outer s H vs Q E hr h => ?_)
  · obtain ⟨t, row, rfl, _⟩ := h
    rfl
  · obtain ⟨t, row, rfl, hT, ro, k⟩ := h
    refine ⟨_, (pss_cons (ps_if (pt_not (pt_val (pe_call (ok_is_filled_tuple T) (hr.mono (by decide)) rfl T.g_is_filled_tuple T.F_is_filled_tuple.kp T.b_is_filled_tuple .nil pass0 (pa_cons (pv 0) pa_nil))))
        (pss_one ps_never)
        pss_nil)
      (pss_cons (ps_set (i := 1) sc_check_row.nd rfl (Or.inl rfl) (pe_call (ok_first_wrong_in_row T) (hr.mono (by decide)) rfl T.g_first_wrong_in_row T.F_first_wrong_in_row.kp T.b_first_wrong_in_row .nil pass0 (pa_cons (pv 0) pa_nil)))
      (pss_one (ps_if (pt_cmpR op_notN (pv 1) pe_non (nomark _))
        (pss_one ps_never)
        pss_nil)))), ?_⟩
    refine ⟨_, rfl, t, _, rfl, hT, _, rfl, ifF (by rw [pos_of_ne ro.ne]; rfl) ?_⟩
    refine ⟨_, rfl, t, row, rfl, hT, (fun z hz => Nat.le_trans (nameOk_len (ro.ok z hz)) (by decide)), fun H1 s1 => ?_⟩
    rw [badS_ok ro]
    exact ⟨_, rfl, rfl, _, rfl, iteF (k H1 s1)⟩
end
end MH
namespace MH
open PySem PySem.Spec PyProof.Rows L2
theorem _root_.MH.TupO.sb {p a : Addr} {H H' : Hp} {xs : List V} (h : TupO H a xs) (s : SameB p H H') (n : a ≠ p) : TupO H' a xs := let ⟨o, e, d⟩ := h; ⟨o, s _ _ n e, d⟩
theorem _root_.MH.TupO.ne {H : Hp} {a b : Addr} {xs : List V} {u : HO} (h : TupO H a xs) (e : H b = some u) (d : ∀ o, .frz o (.tup xs) ≠ u) : a ≠ b := ne_of h.choose_spec.1 e (d _)
theorem _root_.MH.TupO.up {H : Hp} {a b : Addr} {xs : List V} {u v : HO} (h : TupO H a xs) (e : H b = some u) (d : ∀ o, .frz o (.tup xs) ≠ u) : TupO (upd H b v) a xs := let ⟨o, q, z⟩ := h; ⟨o, by rw [upd_ne (ne_of q e (d o))]; exact q, z⟩
theorem _root_.MH.TupO.upN {H : Hp} {a b : Addr} {xs : List V} {v : HO} (h : TupO H a xs) (e : H b = none) : TupO (upd H b v) a xs := let ⟨o, q, z⟩ := h; ⟨o, by rw [upd_ne (ne_of_none q e)]; exact q, z⟩
theorem tupO_new {H : Hp} {p : Addr} {o : Obj} {xs : List V} (d : o.dict = none) : TupO (upd H p (.frz o (.tup xs))) p xs := ⟨o, upd_same, d⟩
theorem perm_popV : ∀ {l : List V} {k : Nat} {z : V}, l[k]? = some z → (z :: l.eraseIdx k).Perm l
  | [], k, z, h => by simp at h
  | a :: l, 0, z, h => by
    obtain rfl : a = z := Option.some.inj h
    exact List.Perm.refl _
  | a :: l, k + 1, z, h => by
    have ih := perm_popV (l := l) (k := k) (z := z) h
    exact (List.Perm.swap a z _).trans (ih.cons a)
/-- the order of any things -/
def spOrderG (K : PySem.W.Frag) : Sp := fun vs H Q _ => ∃ (p t : Addr) (xs : List V), vs = [.ref p, .ref t] ∧ Pu H p ∧ SqT K H t xs ∧ xs.length ≤ 1000 ∧
  ∀ (row : List V) (a : Addr) (H' : Hp), row.Perm xs → SameB p H H' → Pu H' p → TupO H' a row → Q (.ref a) H'
def spNearP (K : PySem.W.Frag) : Sp := fun vs H Q _ => ∃ (p t : Addr) (row : List Str), vs = [.ref p, .ref t] ∧ Pu H p ∧ SqT K H t (row.map V.str) ∧ row.length ≤ 1000 ∧
  ∀ (row' : List Str) (a : Addr) (H' : Hp), row'.Perm row → SameB p H H' → Pu H' p → TupO H' a (row'.map V.str) → Q (.ref a) H'
theorem swap_map {l : List Str} {i j : Nat} {a b : Str} : ((l.map V.str).set i (V.str a)).set j (V.str b) = ((l.set i a).set j b).map V.str := by
  rw [List.map_set, List.map_set]
theorem ix_nat {n j : Nat} (hj : j < n) : ixN n (j : Int) = some j := by
  unfold ixN
  rw [if_pos (by omega), if_pos (by omega), Int.toNat_natCast]
section
variable {P : Program} {w : World} {K : PySem.W.Frag} {mg : Str → Option Value} {base : Heap}
theorem ok_l_order (T : Tx K mg) : FnOk P w K mg base CX0 10 T.a_l_order T.fd_l_order ["_law_purse_here", "_law_things_here"] (spOrderG K) := by
  refine T.F_l_order.ok sc_l_order (fun vs H Q E h => ?_) (fun cdv A outer s H vs Q E hr h => ?_)
  · obtain ⟨p, n, xs, rfl, _⟩ := h
    rfl
  · obtain ⟨p, t, xs, rfl, pu, hT, hz, k⟩ := h
    refine ⟨_, (pss_cons (ps_par (i := 2) (j := 3) rfl sc_l_order.nd rfl rfl (by decide) rfl rfl (pa_cons (pe_callTy call_list_of (by rfl) T.n_list (by decide +kernel) (pa_cons (pv 1) pa_nil)) (pa_cons (pe_lst pa_nil) pa_nil)) (by rfl))
      (pss_cons (ps_for PassesOwn.never rfl (pi_range1 (by rfl) T.n_range (pa_cons (pe_callB call_len_seq (by rfl) T.n_len (by decide +kernel) (pa_cons (pv 1) pa_nil)) pa_nil)) (pg_name (i := 4) sc_l_order.nd rfl (Or.inl rfl))
        (pss_one (ps_expr (pe_bm PySem.F.plainAttrs_list PySem.F.slot_list_append PySem.F.type_list_append mt_append (pv 3) (pa_cons (pe_bm PySem.F.plainAttrs_list PySem.F.slot_list_pop PySem.F.type_list_pop mt_popAt (pv 2) (pa_cons (pe_call (ok_l_draw T) (hr.mono (by decide)) rfl T.g_l_draw T.F_l_draw.kp T.b_l_draw .nil pass0 (pa_cons (pv 0) (pa_cons (pe_callB call_len_seq (by rfl) T.n_len (by decide +kernel) (pa_cons (pv 2) pa_nil)) pa_nil))) pa_nil)) pa_nil)))))
      (pss_one (ps_ret (pe_callTy call_tupF (by rfl) T.n_tuple (by decide +kernel) (pa_cons (pv 3) pa_nil)))))), ?_⟩
    obtain ⟨x0, y0, hp0, _⟩ := id pu
    refine ⟨_, rfl, t, _, rfl, .inr hT, fun l nl => ?_⟩
    refine ⟨Nat.zero_le _, fun fo nfo => ⟨_, _, rfl, ?_⟩⟩
    have npl : p ≠ l := ne_of_none hp0 nl
    have nlf : l ≠ fo := fun e => by
      rw [e, upd_same] at nfo
      cases nfo
    have nfo' : H fo = none := by
      rw [upd_ne nlf.symm] at nfo
      exact nfo
    have npf : p ≠ fo := ne_of_none hp0 nfo'
    have s0 : Same H (upd (upd H l (.lst xs)) fo (.lst [])) := (Same.new nl).new' nfo
    refine ⟨_, rfl, t, _, rfl, .inr (s0.sqt hT), _, rfl, by omega, by omega, for_range (lo := 0) (n := (((xs.length : Nat) : Int)).toNat) (fun i σ H' => ∃ (rest found : List V) (v : Option V), σ = [some (.ref p), some (.ref t), some (.ref l), some (.ref fo), v] ∧
      H' l = some (.lst rest) ∧ H' fo = some (.lst found) ∧ (rest ++ found).Perm xs ∧ found.length = i ∧ SameB p H H' ∧ Pu H' p)
      ⟨xs, [], none, rfl, (by rw [upd_ne nlf]; exact upd_same), upd_same, (by rw [List.append_nil]), rfl, .of s0, pu.same s0⟩ ?_ ?_⟩
    · rintro i σ H' hi ⟨rest, found, v, rfl, hl, hf, hpm, hlen, sb, pu1⟩
      have hsum : rest.length + found.length = xs.length := by
        have := hpm.length_eq
        rw [List.length_append] at this
        exact this
      refine ⟨_, rfl, .inl ⟨rfl, _, lst_of hf⟩, _, rfl, .inl ⟨rfl, _, lst_of hl⟩, _, rfl, _, rfl, l, _, rfl, .inl (lst_of hl), p, _, rfl, pu1, ?_, ?_, fun d H2 d0 d1 sb2 pu2 => ?_⟩
      · omega
      · omega
      · have dk : d.toNat < rest.length := by omega
        have hl2 := sb2 _ _ npl.symm hl
        have hf2 := sb2 _ _ npf.symm hf
        have g : rest[d.toNat]? = some rest[d.toNat] := List.getElem?_eq_getElem dk
        refine ⟨l, _, d, d.toNat, rest[d.toNat], rfl, rfl, hl2, by omega, by omega, seqIndex_in d0 d1, ?_, ?_⟩
        · exact g
        · refine ⟨fo, _, _, rfl, rfl, (by rw [upd_ne nlf.symm]; exact hf2), lt_line (by omega), ?_⟩
          refine ⟨rest.eraseIdx d.toNat, found ++ [rest[d.toNat]], _, rfl, ?_, ?_, ?_, ?_, ?_, ?_⟩
          · rw [upd_ne nlf, upd_same]
          · exact upd_same
          · refine List.Perm.trans ?_ hpm
            rw [← List.append_assoc]
            exact (List.perm_append_comm (l₂ := [rest[d.toNat]])).trans ((perm_popV g).append_right found)
          · rw [List.length_append, hlen]
            rfl
          · intro b o nb e
            have nbl : b ≠ l := ne_of_none e nl
            have nbf : b ≠ fo := ne_of_none e nfo'
            rw [upd_ne nbf, upd_ne nbl]
            exact sb2 _ _ nb (sb _ _ nb e)
          · obtain ⟨x2, y2, hp2, hh⟩ := pu2
            exact ⟨x2, y2, by rw [upd_ne npf, upd_ne npl]; exact hp2, hh⟩
    · rintro σ H' ⟨rest, found, v, rfl, hl, hf, hpm, hlen, sb, pu1⟩
      have e0 : rest = [] := by
        have := hpm.length_eq
        rw [List.length_append, hlen] at this
        simp at this
        exact this
      subst e0
      refine ⟨_, rfl, fo, _, rfl, .inl ⟨lst_of hf, fun t' ot nt dt => ?_⟩⟩
      exact k found t' _ hpm (sb.new nt) (pu1.same (Same.new nt)) (tupO_new dt)
theorem ok_l_near (T : Tx K mg) : FnOk P w K mg base CX0 10 T.a_l_near T.fd_l_near ["_law_purse_here", "_law_row"] (spNearP K) := by
  refine T.F_l_near.ok sc_l_near (fun vs H Q E h => ?_) (fun cdv A outer s H vs Q E hr h => ?_)
  · obtain ⟨p, t, row, rfl, _⟩ := h
    rfl
  · obtain ⟨p, t, row, rfl, pu, hT, hz, k⟩ := h
    refine ⟨_, (pss_cons (ps_set (i := 2) sc_l_near.nd rfl (Or.inl rfl) (pe_callTy call_list_of (by rfl) T.n_list (by decide +kernel) (pa_cons (pv 1) pa_nil)))
      (pss_cons (ps_for PassesOwn.never rfl (pi_range1 (by rfl) T.n_range (pa_cons (pe_ifExp (pt_cmpR op_gt (pe_callB call_len_seq (by rfl) T.n_len (by decide +kernel) (pa_cons (pv 1) pa_nil)) pe_int (nomark _)) (pe_call (ok_l_draw T) (hr.mono (by decide)) rfl T.g_l_draw T.F_l_draw.kp T.b_l_draw .nil pass0 (pa_cons (pv 0) (pa_cons pe_int pa_nil))) pe_int) pa_nil)) (pg_name (i := 3) sc_l_near.nd rfl (Or.inl rfl))
        (pss_cons (ps_set (i := 4) sc_l_near.nd rfl (Or.inl rfl) (pe_call (ok_l_draw T) (hr.mono (by decide)) rfl T.g_l_draw T.F_l_draw.kp T.b_l_draw .nil pass0 (pa_cons (pv 0) (pa_cons (pe_op op_sub (pe_callB call_len_seq (by rfl) T.n_len (by decide +kernel) (pa_cons (pv 1) pa_nil)) pe_int) pa_nil))))
      (pss_one (ps_asg (pe_tup (pa_cons (pe_ix ix_list (pv 2) (pe_op op_add (pv 4) pe_int) (fun _ _ => rfl)) (pa_cons (pe_ix ix_list (pv 2) (pv 4) (fun _ _ => rfl)) pa_nil))) (pg_tup rfl (pgs_cons (pg_sub (pv 2) (pv 4) set_list) (pgs_cons (pg_sub (pv 2) (pe_op op_add (pv 4) pe_int) set_list) pgs_nil)))))))
      (pss_one (ps_ret (pe_callTy call_tupF (by rfl) T.n_tuple (by decide +kernel) (pa_cons (pv 2) pa_nil)))))), ?_⟩
    have lm : (row.map V.str).length = row.length := List.length_map _
    refine ⟨_, rfl, t, _, rfl, .inr hT, fun l nl => ?_⟩
    have s0 := Same.new nl (o := .lst (row.map V.str))
    have hl0 : (upd H l (.lst (row.map V.str))) l = some (.lst (row.map V.str)) := upd_same
    have npl : p ≠ l := by
      obtain ⟨_, _, q, _⟩ := id pu
      exact ne_of_none q nl
    have pu0 := pu.same s0
    have hT0 := s0.sqt hT (K := K)
    generalize upd H l (.lst (row.map V.str)) = H0 at s0 hl0 pu0 hT0 ⊢
    refine ⟨_, rfl, t, _, rfl, .inr hT0, _, _, rfl, rfl, _, rfl, ?_⟩
    refine ite2 (fun c => ?a1) (fun c => ?a2)
    case' a1 =>
      refine ⟨_, rfl, p, 3, rfl, pu0, by decide, by decide, fun d H1 d0 d1 sb1 pu1 => ⟨_, rfl, by omega, by omega, ?_⟩⟩
      have c1 : 1 < row.length := by
        have := of_decide_eq_true c
        omega
      generalize d.toNat = n
      have c2 : 0 < n → 1 < row.length := fun _ => c1
      have sb01 : SameB p H H1 := (SameB.of s0).trans sb1
      have hl1 := sb1 _ _ npl.symm hl0
      have hT1 : SqT K H1 t (row.map V.str) := pu0.sqt sb1 hT0
    case' a2 =>
      refine ⟨_, rfl, by decide, by decide, ?_⟩
      generalize hn : (0 : Int).toNat = n
      have c2 : 0 < n → 1 < row.length := fun h => by
        rw [← hn] at h
        cases h
      have sb01 : SameB p H H0 := SameB.of s0
      have hl1 := hl0
      have pu1 := pu0
      have hT1 := hT0
      have c1 := c
      have sb1 := SameB.refl p H0
      have d0 := hz
      have d1 := hz
      generalize H0 = H1 at sb01 hl1 pu1 hT1 sb1
      have d := hz
    all_goals
      refine for_range (lo := 0) (n := n) (fun i σ H' => ∃ (found : List Str) (v3 v4 : Option V), σ = [some (.ref p), some (.ref t), some (.ref l), v3, v4] ∧ H' l = some (.lst (found.map V.str)) ∧ found.Perm row ∧ SameB p H H' ∧ Pu H' p ∧ SqT K H' t (row.map V.str))
        ⟨row, none, none, rfl, hl1, List.Perm.refl _, sb01, pu1, hT1⟩ ?_ ?_
      · rintro i σ H3 hi ⟨found, v3, v4, rfl, hl3, pm, sb3, pu3, hT3⟩
        have hr1 : 1 < row.length := c2 (by omega)
        have fl := pm.length_eq
        refine ⟨_, rfl, _, rfl, t, _, rfl, .inr hT3, _, _, rfl, rfl, p, _, rfl, pu3, by omega, by omega, fun g H4 g0 g1 sb4 pu4 => ?_⟩
        obtain ⟨m, rfl⟩ := Int.eq_ofNat_of_zero_le g0
        have hm1 : m < found.length := by omega
        have hm2 : m + 1 < found.length := by omega
        have hl4 := sb4 _ _ npl.symm hl3
        have e1 : found[m]? = some found[m] := List.getElem?_eq_getElem hm1
        have e2 : found[m + 1]? = some found[m + 1] := List.getElem?_eq_getElem hm2
        have pm2 : ((found.set m found[m + 1]).set (m + 1) found[m]).Perm found := List.set_set_perm hm1 hm2
        generalize found[m] = za at e1 pm2
        generalize found[m + 1] = zb at e2 pm2
        have g1' : (found.map V.str)[m]? = some (.str za) := by
          rw [List.getElem?_map, e1]
          rfl
        have g2' : (found.map V.str)[m + 1]? = some (.str zb) := by
          rw [List.getElem?_map, e2]
          rfl
        have lf : (found.map V.str).length = found.length := List.length_map _
        refine ⟨_, rfl, _, rfl, _, _, rfl, rfl, l, _, _, _, rfl, rfl, lst_of hl4, (by rw [show ((m : Int) + 1) = ((m + 1 : Nat) : Int) from rfl]; exact atI_nat g2'), _, rfl, _, rfl, l, _, _, _, rfl, rfl, lst_of hl4, atI_nat g1', (by show 2 ≤ sizeLine; decide), fun q nq => ?_⟩
        have nlq : l ≠ q := ne_of_none hl4 nq
        have npq : p ≠ q := by
          obtain ⟨_, _, z, _⟩ := id pu4
          exact ne_of_none z nq
        refine ⟨q, _, rfl, tup_of upd_same, rfl, _, _, rfl, _, rfl, _, rfl, l, _, _, m, rfl, rfl, (by rw [upd_ne nlq]; exact hl4), ix_nat (by omega), ?_⟩
        refine ⟨_, _, rfl, _, rfl, _, rfl, _, _, rfl, rfl, l, _, _, m + 1, rfl, rfl, upd_same, ix_nat (j := m + 1) (by rw [List.length_set]; omega), rfl, ?_⟩
        have hB : SameB l H4 (upd (upd (upd H4 q (.tup [V.str zb, V.str za])) l (.lst ((found.map V.str).set m (V.str zb)))) l (.lst (((found.map V.str).set m (V.str zb)).set (m + 1) (V.str za)))) := (((SameB.refl l H4).new nq).put).put
        refine ⟨(found.set m zb).set (m + 1) za, _, _, rfl, ?_, pm2.trans pm, ?_, ?_, ?_⟩
        · rw [upd_same, swap_map]
        · exact fun b o nb e => hB b o (ne_of_none e nl) (sb4 b o nb (sb3 b o nb e))
        · obtain ⟨x, y, z, hh⟩ := pu4
          exact ⟨x, y, hB _ _ npl z, hh⟩
        · exact hB.sqt hl4 (pu3.sqt sb4 hT3)
      · rintro σ H3 ⟨found, v3, v4, rfl, hl3, pm, sb3, pu3, hT3⟩
        refine ⟨_, rfl, l, _, rfl, .inl ⟨lst_of hl3, fun u ou nu du => ?_⟩⟩
        exact k found u _ pm (sb3.new nu) (pu3.same (Same.new nu)) (tupO_new du)
end
end MH
namespace MH
open PySem PySem.Spec PyProof.Rows L2
theorem nrt : ¬ (("_row" : Str) = "_things") := by decide +kernel
def pf (t ts : Addr) : List (Str × V) := putF "_things" (.ref ts) (putF "_row" (.ref t) [])
theorem pf_row (t ts : Addr) : (pf t ts).lookup ("_row" : Str) = some (.ref t) := by
  unfold pf
  rw [lookup_putF, if_neg nrt, lookup_putF, if_pos rfl]
theorem pf_things (t ts : Addr) : (pf t ts).lookup ("_things" : Str) = some (.ref ts) := by
  unfold pf
  rw [lookup_putF, if_pos rfl]
theorem sqt_but {K : PySem.W.Frag} {p a : Addr} {H H' : Hp} {C dx : Addr} {fs : List (Str × V)} {xs : List V} (s : SameB p H H') (hp : H p = some (.ins C dx fs)) (h : SqT K H a xs) : SqT K H' a xs := by
  rcases h with (h | ⟨o, h⟩) | h
  · exact .inl (.inl (s _ _ (ne_of h hp (by intro q; cases q)) h))
  · exact .inl (.inr ⟨o, s _ _ (ne_of h hp (by intro q; cases q)) h⟩)
  · exact .inr h
/-- a ranking with this row stands at x, the row's own tuple at t -/
def RkK (K : PySem.W.Frag) (C : Addr) (H : Hp) (x t : Addr) (row : List Str) : Prop := ∃ (dx ts : Addr) (th : List Str), H x = some (.ins C dx (pf t ts)) ∧ TupO H t (row.map V.str) ∧ SqT K H ts (th.map V.str) ∧ th.Perm row ∧ sortedS th = true ∧ RowOk row
theorem RkK.same {K : PySem.W.Frag} {C x t : Addr} {H H' : Hp} {row : List Str} (r : RkK K C H x t row) (s : Same H H') : RkK K C H' x t row := by
  obtain ⟨dx, ts, th, h1, h2, h3, h4⟩ := r
  exact ⟨dx, ts, th, s _ _ h1, h2.same s, s.sqt h3, h4⟩
theorem RkK.sameB {K : PySem.W.Frag} {C x t p : Addr} {H H' : Hp} {row : List Str} {zs : List V} (r : RkK K C H x t row) (s : SameB p H H') (hp : H p = some (.lst zs)) : RkK K C H' x t row := by
  obtain ⟨dx, ts, th, h1, h2, h3, h4⟩ := r
  exact ⟨dx, ts, th, s _ _ (ne_of h1 hp (by intro q; cases q)) h1, h2.sb s (h2.ne hp (by intro o q; cases q)), s.sqt hp h3, h4⟩
theorem RkK.ok {K : PySem.W.Frag} {C x t : Addr} {H : Hp} {row : List Str} (r : RkK K C H x t row) : RowOk row := by
  obtain ⟨_, _, _, _, _, _, _, _, h⟩ := r
  exact h
theorem RkK.tup {K : PySem.W.Frag} {C x t : Addr} {H : Hp} {row : List Str} (r : RkK K C H x t row) : TupO H t (row.map V.str) := by
  obtain ⟨_, _, _, _, h, _⟩ := r
  exact h
def spInitK (K : PySem.W.Frag) (C : Addr) : Sp := fun vs H Q _ => ∃ (x dx t : Addr) (row : List Str), vs = [.ref x, .ref t] ∧ H x = some (.ins C dx []) ∧ TupO H t (row.map V.str) ∧ RowOk row ∧ ∀ H', SameB x H H' → RkK K C H' x t row → Q .non H'
def spRowK (K : PySem.W.Frag) (C : Addr) : Sp := fun vs H Q _ => ∃ (x t : Addr) (row : List Str), vs = [.ref x] ∧ RkK K C H x t row ∧ Q (.ref t) H
def spThsK (K : PySem.W.Frag) (C : Addr) : Sp := fun vs H Q _ => ∃ (x t : Addr) (row : List Str), vs = [.ref x] ∧ RkK K C H x t row ∧ ∀ ts th, SqT K H ts (th.map V.str) → th.Perm row → sortedS th = true → Q (.ref ts) H
def spIndexOf (K : PySem.W.Frag) : Sp := fun vs H Q _ => ∃ (z : Str) (t : Addr) (row : List Str) (j : Nat), vs = [.str z, .ref t] ∧ SqT K H t (row.map V.str) ∧ row[j]? = some z ∧ row.Nodup ∧ row.length ≤ 1000 ∧ ∀ H', Same H H' → Q (.int (j : Nat)) H'
theorem eqvAll_strs : ∀ xs ys : List Str, PyData.eqvAll (xs.map PyData.str) (ys.map PyData.str) = decide (xs = ys)
  | [], [] => by simp [PyData.eqvAll]
  | [], _ :: _ => by simp [PyData.eqvAll]
  | _ :: _, [] => by simp [PyData.eqvAll]
  | x :: xs, y :: ys => by
    rw [List.map_cons, List.map_cons, PyData.eqvAll, eqvAll_strs xs ys, PyData.eqv]
    by_cases e : x = y
    · subst e
      simp
    · simp [e]
theorem eqv_strs (xs ys : List Str) : PyData.eqv (.tuple (xs.map PyData.str)) (.tuple (ys.map PyData.str)) = decide (xs = ys) := by
  rw [PyData.eqv]
  exact eqvAll_strs xs ys
theorem eqv_strsL (xs ys : List Str) : PyData.eqv (.list (xs.map PyData.str)) (.list (ys.map PyData.str)) = decide (xs = ys) := by
  rw [PyData.eqv]
  exact eqvAll_strs xs ys
theorem shaped_strs {ss : List Str} (h : ∀ z ∈ ss, nameOk z = true) : SeqAt.shaped (.tuple (ss.map PyData.str)) = true := shaped_of (d := .tuple (ss.map PyData.str)) (okDs_strs fun z hz => nameOk_str (h z hz)) (by simp only [PyData.depth, depth_strs]; decide)
theorem shaped_strsL {ss : List Str} (h : ∀ z ∈ ss, nameOk z = true) : SeqAt.shaped (.list (ss.map PyData.str)) = true := shaped_of (d := .list (ss.map PyData.str)) (okDs_strs fun z hz => nameOk_str (h z hz)) (by simp only [PyData.depth, depth_strs]; decide)
theorem neT_of {K : PySem.W.Frag} {H : Hp} {a b : Addr} {xs ys : List Str} {Q : VK} (ha : SqT K H a (xs.map V.str)) (hb : SqT K H b (ys.map V.str)) (hx : ∀ z ∈ xs, nameOk z = true) (hy : ∀ z ∈ ys, nameOk z = true) (q : Q (.bl (!decide (xs = ys))) H) : rNeD K (.ref a) (.ref b) H Q := by
  refine ⟨_, _, .tup ha (dp_strs xs), .tup hb (dp_strs ys), shaped_strs hx, shaped_strs hy, ?_⟩
  rw [eqv_strs]
  exact q
theorem join_le {row : List Str} (h : RowOk row) : (row.map (·.length)).sum + row.length * (" " : Str).length ≤ 16777216 := by
  have : ∀ l : List Str, (∀ z ∈ l, nameOk z = true) → (l.map (·.length)).sum ≤ l.length * 8 := fun l hl => by
    induction l with
    | nil => exact Nat.le_refl _
    | cons z r ih =>
      have a := nameOk_len (hl z List.mem_cons_self)
      have b := ih fun y hy => hl y (List.mem_cons_of_mem _ hy)
      rw [List.map_cons, List.sum_cons, List.length_cons]
      omega
  have a := this row h.ok
  have b := h.le
  have e : (" " : Str).length = 1 := rfl
  rw [e]
  omega
theorem no_blank {z : Str} (h : nameOk z = true) : (32 : Nat) ∉ TL.tl z := by
  intro m
  unfold nameOk at h
  simp only [Bool.and_eq_true, decide_eq_true_eq] at h
  have q := h.2.2.2
  rw [List.all_eq_true] at q
  have w := q 32 m
  revert w
  decide +kernel
theorem joined_len {row : List Str} (h : RowOk row) : (Txt.join " " row).length ≤ 1000 := by
  have e : Txt.join " " row = Str.join " " row := TL.join_eq " " row
  have a := PySem.StrLaws.join_length_le " " row
  have : ∀ l : List Str, (∀ z ∈ l, nameOk z = true) → (l.map (·.length)).sum ≤ l.length * 8 := fun l hl => by
    induction l with
    | nil => exact Nat.le_refl _
    | cons z r ih =>
      have a := nameOk_len (hl z List.mem_cons_self)
      have b := ih fun y hy => hl y (List.mem_cons_of_mem _ hy)
      rw [List.map_cons, List.sum_cons, List.length_cons]
      omega
  have b := this row h.ok
  have c := h.le
  have d : (" " : Str).length = 1 := rfl
  rw [e]
  rw [d] at a
  omega
section
variable {P : Program} {w : World} {K : PySem.W.Frag} {mg : Str → Option Value} {base : Heap}
theorem ok_RankingD_initD (T : Tx K mg) : FnOk P w K mg base CX0 4 T.a_RankingD_initD T.fd_RankingD_initD ["self", "row"] (spInitK K T.C) := by
  refine T.F_RankingD_initD.ok sc_RankingD_initD (fun vs H Q E h => ?_) (fun cdv A outer s H vs Q E hr h => ?_)
  · obtain ⟨x, dx, t, row, rfl, _⟩ := h
    rfl
  · obtain ⟨x, dx, t, row, rfl, hx, hT, ro, k⟩ := h
    refine ⟨_, (pss_cons (ps_expr (pe_call (ok_check_row T) (hr.mono (by decide)) rfl T.g_check_row T.F_check_row.kp T.b_check_row .nil pass0 (pa_cons (pv 1) pa_nil)))
      (pss_cons (ps_fld (pv 0) (pv 1) rfl)
      (pss_one (ps_fld (pv 0) (pe_callTy call_tupF (by rfl) T.n_tuple (by decide +kernel) (pa_cons (pe_callB cr_sortedU (by rfl) T.n_sorted (by decide +kernel) (pa_cons (pv 1) pa_nil)) pa_nil)) rfl)))), ?_⟩
    refine ⟨_, rfl, t, row, rfl, hT.sqt, ro, fun H1 s1 => ?_⟩
    have hx1 := s1 _ _ hx
    refine ⟨_, rfl, _, rfl, x, T.C, dx, _, rfl, hx1, T.cl, T.no__row, (by show 0 < 1000; decide), ?_⟩
    have b2 : SameB x H (upd H1 x (.ins T.C dx (putF "_row" (.ref t) []))) := (SameB.of s1).put
    have nt := hT.ne hx (by intro o q; cases q)
    have hT2 := sqt_but (K := K) b2 hx hT.sqt
    have hz : row.length < 64 := by
      have := ro.le
      omega
    refine ⟨_, rfl, t, row, rfl, hT2, hz, fun ys p pm so np => ⟨p, _, rfl, .inl ⟨lst_of upd_same, fun u ou nu od => ?_⟩⟩⟩
    have b3 := (b2.new np (o := .lst (ys.map V.str))).new nu (o := .frz ou (.tup (ys.map V.str)))
    have npx : x ≠ p := fun e => by
      rw [← e, upd_same] at np
      cases np
    have nux : x ≠ u := fun e => by
      rw [← e, upd_ne npx, upd_same] at nu
      cases nu
    refine ⟨_, rfl, x, T.C, dx, _, rfl, (by rw [upd_ne nux, upd_ne npx]; exact upd_same), T.cl, T.no__things, (by show 1 < 1000; decide), ?_⟩
    refine k _ b3.put ⟨dx, u, ys, upd_same, hT.sb b3.put nt, ?_, pm, so, ro⟩
    refine frz_of (o := ou) ?_
    rw [upd_ne nux.symm]
    exact upd_same
theorem ok_Ranking_row (T : Tx K mg) : FnOk P w K mg base CX0 1 T.a_Ranking_row T.fd_Ranking_row ["self"] (spRowK K T.C) := by
  refine T.F_Ranking_row.ok sc_Ranking_row (fun vs H Q E h => ?_) (fun cdv A outer s H vs Q E hr h => ?_)
  · obtain ⟨x, t, row, rfl, _⟩ := h
    rfl
  · obtain ⟨x, t, row, rfl, ⟨dx, ts, th, hx, hT, _⟩, k⟩ := h
    refine ⟨_, (pss_one (ps_ret (pe_fld (pv 0) rfl))), ?_⟩
    exact ⟨_, rfl, x, T.C, dx, _, _, rfl, hx, T.cl, T.no__row, pf_row t ts, k⟩
theorem ok_Ranking_things (T : Tx K mg) : FnOk P w K mg base CX0 1 T.a_Ranking_things T.fd_Ranking_things ["self"] (spThsK K T.C) := by
  refine T.F_Ranking_things.ok sc_Ranking_things (fun vs H Q E h => ?_) (fun cdv A outer s H vs Q E hr h => ?_)
  · obtain ⟨x, t, row, rfl, _⟩ := h
    rfl
  · obtain ⟨x, t, row, rfl, ⟨dx, ts, th, hx, hT, hS, pm, so, _⟩, k⟩ := h
    refine ⟨_, (pss_one (ps_ret (pe_fld (pv 0) rfl))), ?_⟩
    exact ⟨_, rfl, x, T.C, dx, _, _, rfl, hx, T.cl, T.no__things, pf_things t ts, k ts th hS pm so⟩
theorem ok_index_of (T : Tx K mg) : FnOk P w K mg base CX0 1 T.a_index_of T.fd_index_of ["name", "names"] (spIndexOf K) := by
  refine T.F_index_of.ok sc_index_of (fun vs H Q E h => ?_) (fun cdv A outer s H vs Q E hr h => ?_)
  · obtain ⟨z, t, row, j, rfl, _⟩ := h
    rfl
  · obtain ⟨z, t, row, j, rfl, hT, hj, nd, hl, k⟩ := h
    refine ⟨_, (pss_one (ps_ret (pe_ix ix_list (pe_lc (own := [("at", 2), ("other", 3)]) (g := gTup K 2 (gCons (gName 2) (gCons (gName 3) gNil))) (tt := tTest (tOp rEq (tVar 3) (tVar 0))) rfl sc_index_of.nd (pi_enumT (by rfl) T.n_enumerate (pa_cons (pv 1) pa_nil)) (blkOk_by (own := [("at", 2), ("other", 3)]) (N := names_index_of) (sc := defScope st_index_of) (by decide +kernel)) (fun _ _ _ _ _ => pg_tup rfl (pgs_cons (pg_name (i := 2) sc_index_of.nd rfl (Or.inl rfl)) (pgs_cons (pg_name (i := 3) sc_index_of.nd rfl (Or.inl rfl)) pgs_nil))) (fun _ _ _ _ _ => pts_one (pt_cmpR op_eq (pv 3) (pv 0) (nomark _))) (fun _ _ _ _ _ => (pv 2))) pe_int (fun _ _ => rfl)))), ?_⟩
    refine ⟨_, rfl, t, _, rfl, hT, fun D nD => lc_it walk_enumT (fun i H' => Same H H' ∧ H' D = some (.lst (if j < i then [V.int (j : Nat)] else []))) ⟨Same.new nD, by rw [if_neg (by omega)]; exact upd_same⟩ (fun i H' _ h => h.1.sqt hT) ?_ ?_⟩
    · rintro i x H1 H2 hi ⟨s1, e1⟩ ⟨p, y1, y2, rfl, np, rfl, ee1, ee2⟩
      cases ee1
      rw [List.length_map] at hi
      obtain ⟨y, hy, rfl⟩ := str_at ee2
      have s2 := s1.new' np (o := .tup [.int (i : Nat), .str y])
      have nDp : D ≠ p := ne_of_none e1 np
      refine ⟨p, _, rfl, tup_of upd_same, rfl, _, _, rfl, _, _, rfl, rfl, rfl, ?_⟩
      refine ⟨_, rfl, _, rfl, rfl, _, rfl, ?_⟩
      have e2 := (upd_ne (o := .tup [.int (i : Nat), .str y]) nDp).trans e1
      refine ite2 (fun c => ?_) (fun c => ?_)
      · have c : y = z := by
          have q := of_decide_eq_true c
          cases q
          rfl
        subst c
        have ij : i = j := by
          obtain ⟨h1, q1⟩ := List.getElem?_eq_some_iff.mp hy
          obtain ⟨h2, q2⟩ := List.getElem?_eq_some_iff.mp hj
          exact (List.getElem_inj nd).mp (q1.trans q2.symm)
        subst ij
        rw [if_neg (by omega)] at e2
        refine ⟨_, rfl, _, e2, lt_line (by show 0 < 100000; decide), fun b o h => ?_, ?_⟩
        · rw [upd_ne (ne_of_none h nD)]
          exact s2 _ _ h
        · rw [upd_same, if_pos (by omega)]
          rfl
      · have ij : i ≠ j := fun q => by
          subst q
          rw [hy] at hj
          cases hj
          exact c (decide_eq_true rfl)
        refine ⟨s2, ?_⟩
        rw [e2]
        congr 2
        by_cases q : j < i
        · rw [if_pos q, if_pos (by omega)]
        · rw [if_neg q, if_neg (by omega)]
    · rintro H1 ⟨s1, e1⟩
      rw [List.length_map, if_pos (List.getElem?_eq_some_iff.mp hj).1] at e1
      exact ⟨D, _, 0, V.int (j : Nat), rfl, rfl, lst_of e1, atI_nat (j := 0) rfl, k H1 s1⟩
end
end MH
namespace MH
open PySem PySem.Spec PyProof.Rows L2
theorem Same.sql {K : PySem.W.Frag} {H H' : Hp} {a : Addr} {xs : List V} (s : Same H H') (h : SqL K H a xs) : SqL K H' a xs := by
  rcases h with (h | ⟨o, h⟩) | h
  · exact .inl (.inl (s _ _ h))
  · exact .inl (.inr ⟨o, s _ _ h⟩)
  · exact .inr h
/-- a mask that lies within one of these -/
def covI (m : Int) (ns : List Int) : Bool := ns.any fun o => decide (Builtin.bitAnd m o = m)
def spCov (K : PySem.W.Frag) : Sp := fun vs H Q _ => ∃ (m : Int) (l : Addr) (ns : List Int), vs = [.int m, .ref l] ∧ SqL K H l (ns.map V.int) ∧ Q (.bl (covI m ns)) H
theorem int_at {ns : List Int} {i : Nat} {y : V} (h : (ns.map V.int)[i]? = some y) : ∃ z, ns[i]? = some z ∧ y = V.int z := by
  rw [List.getElem?_map] at h
  cases e : ns[i]? with
  | none =>
    rw [e] at h
    cases h
  | some z =>
    rw [e] at h
    exact ⟨z, rfl, (Option.some.inj h).symm⟩
theorem covI_take {m z : Int} {ns : List Int} {i : Nat} (h : ns[i]? = some z) : covI m (ns.take (i + 1)) = (covI m (ns.take i) || decide (Builtin.bitAnd m z = m)) := by
  unfold covI
  rw [List.take_add_one, h, List.any_append]
  simp
theorem covI_at {m z : Int} {ns : List Int} {i : Nat} (h : ns[i]? = some z) (e : Builtin.bitAnd m z = m) : covI m ns = true := List.any_eq_true.mpr ⟨z, List.mem_of_getElem? h, decide_eq_true e⟩
section
variable {P : Program} {w : World} {K : PySem.W.Frag} {mg : Str → Option Value} {base : Heap}
theorem ok_is_covered (T : Tx K mg) : FnOk P w K mg base CX0 1 T.a_is_covered T.fd_is_covered ["mask", "masks"] (spCov K) := by
  refine T.F_is_covered.ok sc_is_covered (fun vs H Q E h => ?_) (fun cdv A outer s H vs Q E hr h => ?_)
  · obtain ⟨m, l, ns, rfl, _⟩ := h
    rfl
  · obtain ⟨m, l, ns, rfl, hl, k⟩ := h
    refine ⟨_, (pss_cons (ps_for PassesOwn.never rfl (pi_list (pv 1)) (pg_name (i := 2) sc_is_covered.nd rfl (Or.inl rfl))
        (pss_one (ps_if (pt_cmpR op_eq (pe_op op_and (pv 0) (pv 2)) (pv 0) (nomark _))
        (pss_one (ps_ret pe_bl))
        pss_nil)))
      (pss_one (ps_ret pe_bl))), ?_⟩
    refine ⟨_, rfl, l, rfl, ⟨_, hl⟩, for_list (K := K) (a := l) (xs := ns.map V.int) (fun i σ H' => H' = H ∧ (∃ v, σ = [some (.int m), some (.ref l), v]) ∧ covI m (ns.take i) = false) ⟨rfl, ⟨none, rfl⟩, rfl⟩ (fun i σ H' _ h => h.1 ▸ hl) ?_ ?_⟩
    · rintro i x σ H' hx ⟨rfl, ⟨v, rfl⟩, hc⟩
      obtain ⟨z, hz, rfl⟩ := int_at hx
      refine ⟨_, rfl, _, rfl, _, _, rfl, rfl, _, rfl, rfl, _, rfl, ?_⟩
      refine ite2 (fun c => ?_) (fun c => ?_)
      · have c : Builtin.bitAnd m z = m := by
          have q : V.int (Builtin.bitAnd m z) = V.int m := of_decide_eq_true c
          injection q
        rw [covI_at hz c] at k
        exact k
      · have c : decide (Builtin.bitAnd m z = m) = false := by
          cases e : decide (Builtin.bitAnd m z = m) with
          | false => rfl
          | true => exact absurd (decide_eq_true (show V.int (Builtin.bitAnd m z) = V.int m by rw [of_decide_eq_true e])) c
        refine ⟨rfl, ⟨_, rfl⟩, ?_⟩
        rw [covI_take hz, hc, c]
        rfl
    · rintro σ H' ⟨rfl, ⟨v, rfl⟩, hc⟩
      rw [List.length_map, List.take_length] at hc
      rw [hc] at k
      exact k
/-- from the greatest down, each that no one before it covers -/
def greatF : List Int → List Int → List Int
  | f, [] => f
  | f, m :: r => greatF (if covI m f then f else f ++ [m]) r
theorem greatF_snoc : ∀ (r f : List Int) (m : Int), greatF f (r ++ [m]) = if covI m (greatF f r) then greatF f r else greatF f r ++ [m]
  | [], f, m => rfl
  | x :: r, f, m => by
    rw [List.cons_append, greatF, greatF_snoc r]
    rfl
theorem greatF_len : ∀ (r f : List Int), (greatF f r).length ≤ f.length + r.length
  | [], f => Nat.le_refl _
  | x :: r, f => by
    rw [greatF]
    have h := greatF_len r (if covI x f then f else f ++ [x])
    have e : (if covI x f then f else f ++ [x]).length ≤ f.length + 1 := by
      by_cases c : covI x f = true
      · rw [if_pos c]
        omega
      · rw [if_neg c, List.length_append]
        exact Nat.le_refl _
    rw [List.length_cons]
    omega
def downI (ns : List Int) : List Int := ns.mergeSort fun a b => decide (b ≤ a)
def greatI (ns : List Int) : List Int := greatF [] (downI ns)
theorem down_uniq {ns ns' : List Int} (p : ns'.Perm ns) (o : OrdB true ns') : ns' = downI ns := by
  have o : ns'.Pairwise (· ≥ ·) := o
  have q : (downI ns).Pairwise (fun a b => decide (b ≤ a) = true) := List.pairwise_mergeSort (fun a b c h1 h2 => by
    have h1 := of_decide_eq_true h1
    have h2 := of_decide_eq_true h2
    exact decide_eq_true (by omega)) (fun a b => by
    by_cases h : b ≤ a
    · rw [decide_eq_true h]
      rfl
    · rw [decide_eq_true (show a ≤ b by omega), Bool.or_true]) ns
  refine (p.trans (List.mergeSort_perm ns _).symm).eq_of_pairwise (le := fun a b => decide (b ≤ a) = true) (fun a b _ _ h1 h2 => ?_) (o.imp fun h => decide_eq_true h) q
  have h1 := of_decide_eq_true h1
  have h2 := of_decide_eq_true h2
  omega
def spGreat (K : PySem.W.Frag) : Sp := fun vs H Q _ => ∃ (l : Addr) (ns : List Int), vs = [.ref l] ∧ SqL K H l (ns.map V.int) ∧ ns.length ≤ 1000 ∧ ∀ a H', Same H H' → SqT K H' a ((greatI ns).map V.int) → Q (.ref a) H'
theorem ok_greatest (T : Tx K mg) : FnOk P w K mg base CX0 2 T.a_greatest T.fd_greatest ["masks"] (spGreat K) := by
  refine T.F_greatest.ok sc_greatest (fun vs H Q E h => ?_) (fun cdv A outer s H vs Q E hr h => ?_)
  · obtain ⟨l, ns, rfl, _⟩ := h
    rfl
  · obtain ⟨l, ns, rfl, hl, hz, k⟩ := h
    refine ⟨_, (pss_cons (ps_set (i := 1) sc_greatest.nd rfl (Or.inl rfl) (pe_lst pa_nil))
      (pss_cons (ps_for PassesOwn.never rfl (pi_list (pe_callBK (r := rSortedKw K true [.bl true]) cr_sortedRev (by rfl) T.n_sorted (by decide +kernel) (pa_cons (pv 0) pa_nil) (pk_cons pe_bl pk_nil))) (pg_name (i := 2) sc_greatest.nd rfl (Or.inl rfl))
        (pss_one (ps_if (pt_not (pt_val (pe_call (ok_is_covered T) (hr.mono (by decide)) rfl T.g_is_covered T.F_is_covered.kp T.b_is_covered .nil pass0 (pa_cons (pv 2) (pa_cons (pv 1) pa_nil)))))
        (pss_one (ps_expr (pe_bm PySem.F.plainAttrs_list PySem.F.slot_list_append PySem.F.type_list_append mt_append (pv 1) (pa_cons (pv 2) pa_nil))))
        pss_nil)))
      (pss_one (ps_ret (pe_callTy call_tupP (by rfl) T.n_tuple (by decide +kernel) (pa_cons (pv 1) pa_nil)))))), ?_⟩
    refine ⟨Nat.zero_le _, fun fo nfo => ?_⟩
    have s0 := Same.new nfo (o := .lst [])
    have hl0 := Same.sql s0 hl (K := K)
    refine ⟨_, rfl, l, ns, rfl, rfl, hl0, fun ns' p pm ob np => ?_⟩
    have nfp : fo ≠ p := fun e => by
      rw [← e, upd_same] at np
      cases np
    obtain rfl := down_uniq pm ob
    have e0 : (upd (upd H fo (.lst [])) p (.lst ((downI ns).map V.int))) fo = some (.lst (([] : List Int).map V.int)) := by
      rw [upd_ne nfp]
      exact upd_same
    have e1 : (upd (upd H fo (.lst [])) p (.lst ((downI ns).map V.int))) p = some (.lst ((downI ns).map V.int)) := upd_same
    have s1 : Same H (upd (upd H fo (.lst [])) p (.lst ((downI ns).map V.int))) := s0.new' np
    generalize upd (upd H fo (.lst [])) p (.lst ((downI ns).map V.int)) = H1 at e0 e1 s1 ⊢
    have dl : (downI ns).length = ns.length := pm.length_eq
    refine ⟨p, rfl, ⟨_, lst_of e1⟩, for_list (K := K) (a := p) (xs := (downI ns).map V.int) (fun i σ H' => Same H H' ∧ H' p = some (.lst ((downI ns).map V.int)) ∧ H' fo = some (.lst ((greatF [] ((downI ns).take i)).map V.int)) ∧ ∃ v, σ = [some (.ref l), some (.ref fo), v])
      ⟨s1, e1, e0, none, rfl⟩ (fun i σ H' _ h => lst_of h.2.1) ?_ ?_⟩
    · rintro i x σ H2 hx ⟨s2, p2, f2, v, rfl⟩
      obtain ⟨z, hz2, rfl⟩ := int_at hx
      have hi : i < (downI ns).length := (List.getElem?_eq_some_iff.mp hz2).1
      have fz := greatF_snoc ((downI ns).take i) [] z
      have ft : greatF [] ((downI ns).take (i + 1)) = if covI z (greatF [] ((downI ns).take i)) then greatF [] ((downI ns).take i) else greatF [] ((downI ns).take i) ++ [z] := by
        rw [List.take_add_one, hz2]
        exact fz
      have lf := greatF_len ((downI ns).take i) []
      rw [List.length_take, List.length_nil] at lf
      refine ⟨_, rfl, _, rfl, z, fo, _, rfl, lst_of f2, ?_⟩
      refine ⟨_, rfl, ?_⟩
      refine ite2 (fun c => ?_) (fun c => ?_)
      · have c : covI z (greatF [] ((downI ns).take i)) = false := by
          revert c
          cases covI z (greatF [] ((downI ns).take i)) <;> simp
        refine ⟨_, rfl, .inl ⟨rfl, _, lst_of f2⟩, _, rfl, fo, _, _, rfl, rfl, f2, lt_line (by rw [List.length_map]; omega), ?_⟩
        refine ⟨fun b o h => ?_, ?_, ?_, _, rfl⟩
        · rw [upd_ne (ne_of_none h nfo)]
          exact s2 _ _ h
        · rw [upd_ne nfp.symm]
          exact p2
        · rw [upd_same, ft, c, if_neg (by simp), List.map_append]
          rfl
      · have c : covI z (greatF [] ((downI ns).take i)) = true := by
          revert c
          cases covI z (greatF [] ((downI ns).take i)) <;> simp
        refine ⟨s2, p2, ?_, _, rfl⟩
        rw [ft, c, if_pos rfl]
        exact f2
    · rintro σ H2 ⟨s2, p2, f2, v, rfl⟩
      rw [List.length_map, List.take_length] at f2
      exact ⟨_, rfl, fo, _, rfl, .inl ⟨lst_of f2, fun a na => k a _ (s2.new' na) (tup_of upd_same)⟩⟩
end
end MH
namespace MH
open PySem PySem.Spec PyProof.Rows L2
def maskI (things : List Str) (names : List Str) : Int := names.foldl (fun m z => Builtin.bitOr m (1 * 2 ^ (things.idxOf z))) 0
def belowI (things row : List Str) : List Int := things.map fun z => maskI things (row.drop (row.idxOf z + 1))
theorem idx_at {things : List Str} {z : Str} (h : z ∈ things) : things[things.idxOf z]? = some z := by
  have l : things.idxOf z < things.length := List.idxOf_lt_length_of_mem h
  rw [List.getElem?_eq_getElem l, List.getElem_idxOf l]
def spMask (K : PySem.W.Frag) : Sp := fun vs H Q _ => ∃ (a t : Addr) (names things : List Str), vs = [.ref a, .ref t] ∧ SqT K H a (names.map V.str) ∧ SqT K H t (things.map V.str) ∧ (∀ z ∈ names, z ∈ things) ∧ things.Nodup ∧ things.length ≤ 1000 ∧
  ∀ H', Same H H' → Q (.int (maskI things names)) H'
def spBelowI (K : PySem.W.Frag) : Sp := fun vs H Q _ => ∃ (a t : Addr) (row things : List Str), vs = [.ref a, .ref t] ∧ SqT K H a (row.map V.str) ∧ SqT K H t (things.map V.str) ∧ row.Perm things ∧ things.Nodup ∧ things.length ≤ 1000 ∧
  ∀ D H', H D = none → Same H H' → H' D = some (.lst ((belowI things row).map V.int)) → Q (.ref D) H'
theorem maskI_take {things names : List Str} {i : Nat} {z : Str} (h : names[i]? = some z) : maskI things (names.take (i + 1)) = Builtin.bitOr (maskI things (names.take i)) (1 * 2 ^ (things.idxOf z)) := by
  unfold maskI
  rw [List.take_add_one, h, List.foldl_append]
  rfl
section
variable {P : Program} {w : World} {K : PySem.W.Frag} {mg : Str → Option Value} {base : Heap}
theorem ok_mask_of (T : Tx K mg) : FnOk P w K mg base CX0 2 T.a_mask_of T.fd_mask_of ["names", "things"] (spMask K) := by
  refine T.F_mask_of.ok sc_mask_of (fun vs H Q E h => ?_) (fun cdv A outer s H vs Q E hr h => ?_)
  · obtain ⟨a, t, names, things, rfl, _⟩ := h
    rfl
  · obtain ⟨a, t, names, things, rfl, hA, hT, hin, nd, hz, k⟩ := h
    refine ⟨_, (pss_cons (ps_set (i := 2) sc_mask_of.nd rfl (Or.inl rfl) pe_int)
      (pss_cons (ps_for PassesOwn.never rfl (pi_tup (pv 0)) (pg_name (i := 3) sc_mask_of.nd rfl (Or.inl rfl))
        (pss_one (ps_set (i := 2) sc_mask_of.nd rfl (Or.inl rfl) (pe_op op_or (pv 2) (pe_op op_shl pe_int (pe_call (ok_index_of T) (hr.mono (by decide)) rfl T.g_index_of T.F_index_of.kp T.b_index_of .nil pass0 (pa_cons (pv 3) (pa_cons (pv 1) pa_nil))))))))
      (pss_one (ps_ret (pv 2))))), ?_⟩
    refine ⟨_, rfl, a, rfl, ⟨_, hA⟩, for_tup (K := K) (a := a) (xs := names.map V.str) (fun i σ H' => Same H H' ∧ ∃ v, σ = [some (.ref a), some (.ref t), some (.int (maskI things (names.take i))), v])
      ⟨Same.refl H, none, rfl⟩ (fun i σ H' _ h => h.1.sqt hA) ?_ ?_⟩
    · rintro i x σ H2 hx ⟨s2, v, rfl⟩
      obtain ⟨z, hz2, rfl⟩ := str_at hx
      have hm : z ∈ things := hin z (List.mem_of_getElem? hz2)
      refine ⟨_, rfl, _, rfl, _, rfl, z, t, things, things.idxOf z, rfl, s2.sqt hT, idx_at hm, nd, hz, fun H3 s3 => ?_⟩
      have li : things.idxOf z < things.length := List.idxOf_lt_length_of_mem hm
      refine ⟨1, _, rfl, rfl, ⟨by omega, by omega, by decide⟩, _, _, rfl, rfl, s2.trans s3, some (.str z), ?_⟩
      rw [maskI_take hz2]
      rfl
    · rintro σ H2 ⟨s2, v, rfl⟩
      rw [List.length_map, List.take_length]
      exact ⟨_, rfl, k H2 s2⟩
theorem ok_below_masks (T : Tx K mg) : FnOk P w K mg base CX0 3 T.a_below_masks T.fd_below_masks ["row", "things"] (spBelowI K) := by
  refine T.F_below_masks.ok sc_below_masks (fun vs H Q E h => ?_) (fun cdv A outer s H vs Q E hr h => ?_)
  · obtain ⟨a, t, row, things, rfl, _⟩ := h
    rfl
  · obtain ⟨a, t, row, things, rfl, hA, hT, pm, nd, hz, k⟩ := h
    refine ⟨_, (pss_one (ps_ret (pe_lc (own := [("thing", 2)]) (g := gName 2) (tt := tYes) rfl sc_below_masks.nd (pi_tup (pv 1)) (blkOk_by (own := [("thing", 2)]) (N := names_below_masks) (sc := defScope st_below_masks) (by decide +kernel)) (fun _ _ _ _ _ => pg_name (i := 2) sc_below_masks.nd rfl (Or.inl rfl)) (fun _ _ _ _ _ => pts_nil) (fun _ _ _ _ _ => (pe_call (ok_mask_of T) (hr.mono (by decide)) rfl T.g_mask_of T.F_mask_of.kp T.b_mask_of .nil pass0 (pa_cons (pe_slice (r := rSlA K) sl_tupA (pv 0) (po_some (pe_op op_add (pe_call (ok_index_of T) (hr.mono (by decide)) rfl T.g_index_of T.F_index_of.kp T.b_index_of .nil pass0 (pa_cons (pv 2) (pa_cons (pv 0) pa_nil))) pe_int)) po_none) (pa_cons (pv 1) pa_nil))))))), ?_⟩
    have hzr : row.length = things.length := pm.length_eq
    have ndr : row.Nodup := pm.symm.nodup_iff.mp nd
    refine ⟨_, rfl, t, rfl, ⟨_, hT⟩, fun D nD => lc_tup (K := K) (a := t) (xs := things.map V.str) (fun i H' => Same H H' ∧ H' D = some (.lst (((belowI things row).take i).map V.int))) ⟨Same.new nD, upd_same⟩ (fun i H' _ h => h.1.sqt hT) ?_ ?_⟩
    · rintro i y H2 hy ⟨s2, e2⟩
      obtain ⟨z, hz2, rfl⟩ := str_at hy
      have hm : z ∈ things := List.mem_of_getElem? hz2
      have hmr : z ∈ row := pm.symm.subset hm
      have lr : row.idxOf z < row.length := List.idxOf_lt_length_of_mem hmr
      refine ⟨rfl, ?_⟩
      refine ⟨_, rfl, _, rfl, _, rfl, z, a, row, row.idxOf z, rfl, s2.sqt hA, idx_at hmr, ndr, by omega, fun H3 s3 => ?_⟩
      refine ⟨_, _, rfl, rfl, _, rfl, ?_⟩
      dsimp only [tNoPart]
      refine slA_of (lo := some ((row.idxOf z : Int) + 1)) (hi := none) ((s2.trans s3).sqt hA) fun p H4 s4 hp => ?_
      have e : cutV (row.map V.str) (some ((row.idxOf z : Nat) + 1 : Int)) none = (row.drop (row.idxOf z + 1)).map V.str := by
        rw [show ((row.idxOf z : Nat) + 1 : Int) = ((row.idxOf z + 1 : Nat) : Int) from rfl, cut_from, List.map_drop]
      rw [e] at hp
      refine ⟨_, rfl, p, t, _, things, rfl, hp, (s2.trans (s3.trans s4)).sqt hT, fun y hy => pm.subset (List.mem_of_mem_drop hy), nd, hz, fun H5 s5 => ?_⟩
      have e5 := (s3.trans (s4.trans s5)) _ _ e2
      have lb : (belowI things row).length = things.length := List.length_map _
      have li : i < things.length := (List.getElem?_eq_some_iff.mp hz2).1
      refine ⟨_, e5, lt_line (by rw [List.length_map, List.length_take]; omega), fun b o h => ?_, ?_⟩
      · rw [upd_ne (ne_of_none h nD)]
        exact (s3.trans (s4.trans s5)) _ _ (s2 _ _ h)
      · have g : (belowI things row)[i]? = some (maskI things (row.drop (row.idxOf z + 1))) := by
          unfold belowI
          rw [List.getElem?_map, hz2]
          rfl
        rw [upd_same, List.take_add_one, g, List.map_append]
        rfl
    · rintro H2 ⟨s2, e2⟩
      rw [List.length_map, show things.length = (belowI things row).length from (List.length_map _).symm, List.take_length] at e2
      exact k D H2 nD s2 e2
end
end MH
namespace MH
open PySem PySem.Spec PyProof.Rows L2
/-- these objects are rankings with these rows, all of the same things -/
def Rks (K : PySem.W.Frag) (C : Addr) (H : Hp) (th : List Str) (rs : List (Addr × Addr × List Str)) : Prop := (∀ r ∈ rs, RkK K C H r.1 r.2.1 r.2.2 ∧ th.Perm r.2.2)
def spChkR (K : PySem.W.Frag) (C : Addr) : Sp := fun vs H Q _ => ∃ (p : Addr) (th : List Str) (rs : List (Addr × Addr × List Str)), vs = [.ref p] ∧ SqT K H p (rs.map fun r => V.ref r.1) ∧ rs ≠ [] ∧ rs.length ≤ 1000 ∧ Rks K C H th rs ∧ sortedS th = true ∧ ∀ H', Same H H' → Q .non H'
section
variable {P : Program} {w : World} {K : PySem.W.Frag} {mg : Str → Option Value} {base : Heap}
theorem ok_check_rankings (T : Tx K mg) : FnOk P w K mg base CX0 3 T.a_check_rankings T.fd_check_rankings ["rankings"] (spChkR K T.C) := by
  refine T.F_check_rankings.ok sc_check_rankings (fun vs H Q E h => ?_) (fun cdv A outer s H vs Q E hr h => ?_)
  · obtain ⟨p, th, rs, rfl, _⟩ := h
    rfl
  · obtain ⟨p, th, rs, rfl, hp, hne, hz, hk, so, k⟩ := h
    refine ⟨_, (pss_cons (ps_if (pt_not (pt_truth (pv 0) (fun _ => rfl)))
        (pss_one ps_never)
        pss_nil)
      (pss_one (ps_for PassesOwn.never rfl (pi_enumT (by rfl) T.n_enumerate (pa_cons (pv 0) pa_nil)) (pg_tup rfl (pgs_cons (pg_name (i := 1) sc_check_rankings.nd rfl (Or.inl rfl)) (pgs_cons (pg_name (i := 2) sc_check_rankings.nd rfl (Or.inl rfl)) pgs_nil)))
        (pss_one (ps_if (PW.pt (pw_or (pt_not (pt_val (pe_callB call_isi (by rfl) T.n_isinstance (by decide +kernel) (pa_cons (pv 2) (pa_cons (pe_glob (v := .ref T.C) rfl T.g_Ranking rfl) pa_nil))))) (pw_or1 (pt_cmpR (op_neD hr.units) (pe_prop (pv 2) T.cl T.p_things (ok_Ranking_things T) (hr.mono (by decide)) T.b_Ranking_things .nil pass0 (by rfl)) (pe_prop (pe_ix ix_tup (pv 0) pe_int (fun _ _ => rfl)) T.cl T.p_things (ok_Ranking_things T) (hr.mono (by decide)) T.b_Ranking_things .nil pass0 (by rfl)) (nomark _)))))
        (pss_one ps_never)
        pss_nil))))), ?_⟩
    have hne' : (!(rs.map fun r => V.ref r.1).isEmpty) = true := by
      cases rs with
      | nil => exact absurd rfl hne
      | cons a r => rfl
    refine ⟨_, rfl, true, .inr (.inl ⟨_, hp, hne'.symm⟩), ifF rfl ?_⟩
    refine ⟨_, rfl, p, _, rfl, hp, for_it walk_enumT (fun i σ H' => Same H H' ∧ ∃ v1 v2, σ = [some (.ref p), v1, v2]) ⟨Same.refl H, none, none, rfl⟩ (fun i σ H' _ h => h.1.sqt hp) ?_ ?_⟩
    · rintro i x σ H1 H2 hi ⟨s1, v1, v2, rfl⟩ ⟨q, y1, y2, rfl, nq, rfl, e1, e2⟩
      cases e1
      rw [List.length_map] at hi
      have e3 : (rs.map fun r => V.ref r.1)[i]? = some (V.ref rs[i].1) := by
        rw [List.getElem?_map, List.getElem?_eq_getElem hi]
        rfl
      obtain rfl : y2 = V.ref rs[i].1 := Option.some.inj (e2.symm.trans e3)
      have s2 := s1.new' nq (o := .tup [.int (i : Nat), .ref rs[i].1])
      obtain ⟨rk, pm⟩ := hk rs[i] (List.getElem_mem hi)
      have h0 : 0 < rs.length := by omega
      obtain ⟨rk0, pm0⟩ := hk rs[0] (List.getElem_mem h0)
      have e0 : (rs.map fun r => V.ref r.1)[0]? = some (V.ref rs[0].1) := by
        rw [List.getElem?_map, List.getElem?_eq_getElem h0]
        rfl
      refine ⟨q, _, rfl, tup_of upd_same, rfl, _, _, rfl, _, _, rfl, rfl, ?_⟩
      have rk2 := rk.same s2
      have rk02 := rk0.same s2
      obtain ⟨dx, ts, th1, hx, _⟩ := id rk2
      obtain ⟨dx0, ts0, th0, hx0, _⟩ := id rk02
      refine ⟨_, rfl, _, _, _, _, true, rfl, .own _, T.ty hx, by unfold PySem.W.kitOne; rw [if_pos (beq_self_eq_true _)], true, rfl, ifF rfl ?_⟩
      refine ⟨_, rfl, _, dx, _, rfl, hx, _, _, _, rfl, rk2, fun u tu hu pu su => ?_⟩
      refine ⟨_, rfl, p, _, _, _, rfl, rfl, s2.sqt hp, atI_nat (j := 0) e0, ?_⟩
      refine ⟨_, dx0, _, rfl, hx0, _, _, _, rfl, rk02, fun u0 tu0 hu0 pu0 su0 => ?_⟩
      have eu := sorted_one (pu.trans pm.symm) su so
      have eu0 := sorted_one (pu0.trans pm0.symm) su0 so
      subst eu eu0
      have ro := rk.ok
      have okth : ∀ z ∈ tu0, nameOk z = true := fun z hz => ro.ok z (pm.subset hz)
      refine neT_of hu hu0 okth okth ⟨_, rfl, ifF (by simp) ⟨s2, _, _, rfl⟩⟩
    · rintro σ H1 ⟨s1, v1, v2, rfl⟩
      exact k H1 s1
end
end MH
namespace MH
open PySem PySem.Spec PyProof.Rows L2
/-! ### the table of rankings by their rows -/
def rkey (row : List Str) : List Key := row.map Sum.inr
theorem rkey_kV (row : List Str) : (rkey row).map kV = row.map V.str := by
  unfold rkey
  rw [List.map_map]
  rfl
theorem map_inj1 {α β : Type} {f : α → β} (hf : ∀ x y, f x = f y → x = y) : ∀ {a b : List α}, a.map f = b.map f → a = b
  | [], [], _ => rfl
  | [], _ :: _, h => by cases h
  | _ :: _, [], h => by cases h
  | x :: a, y :: b, h => by
    rw [List.map_cons, List.map_cons] at h
    injection h with h1 h2
    rw [hf x y h1, map_inj1 hf h2]
theorem rkey_inj {a b : List Str} (h : rkey a = rkey b) : a = b := map_inj1 (fun x y e => by cases e; rfl) h
theorem strV_inj {a b : List Str} (h : a.map V.str = b.map V.str) : a = b := map_inj1 (fun x y e => by cases e; rfl) h
abbrev Rk3 := Addr × Addr × List Str
def tabR (rs : List Rk3) : List (List Key × V) := rs.foldl (fun kvs r => putK kvs (rkey r.2.2) (V.ref r.1)) []
theorem tabR_take {rs : List Rk3} {i : Nat} {r : Rk3} (h : rs[i]? = some r) : tabR (rs.take (i + 1)) = putK (tabR (rs.take i)) (rkey r.2.2) (V.ref r.1) := by
  unfold tabR
  rw [List.take_add_one, h, List.foldl_append]
  rfl
structure TabOk (kvs : List (List Key × V)) (rs : List Rk3) : Prop where
  none : ∀ row, valV kvs (rkey row) = none → row ∉ rs.map (·.2.2)
  some : ∀ row v, valV kvs (rkey row) = some v → ∃ r ∈ rs, r.2.2 = row ∧ v = V.ref r.1
  keys : ∀ k ∈ kvs.map (·.1), ∃ r ∈ rs, k = rkey r.2.2
  nd : (kvs.map (·.1)).Nodup
  le : kvs.length ≤ rs.length
theorem TabOk.put {kvs : List (List Key × V)} {rs : List Rk3} (t : TabOk kvs rs) (r : Rk3) : TabOk (putK kvs (rkey r.2.2) (V.ref r.1)) (rs ++ [r]) where
  none := fun row h => by
    rw [valV_put] at h
    by_cases e : rkey row = rkey r.2.2
    · rw [if_pos e] at h
      cases h
    · rw [if_neg e] at h
      rw [List.map_append, List.mem_append]
      rintro (m | m)
      · exact t.none row h m
      · exact e (by rw [List.mem_singleton.mp m])
  some := fun row v h => by
    rw [valV_put] at h
    by_cases e : rkey row = rkey r.2.2
    · rw [if_pos e] at h
      exact ⟨r, List.mem_append_right _ (List.mem_singleton.mpr rfl), (rkey_inj e).symm, (Option.some.inj h).symm⟩
    · rw [if_neg e] at h
      obtain ⟨q, hq, e1, e2⟩ := t.some row v h
      exact ⟨q, List.mem_append_left _ hq, e1, e2⟩
  keys := fun k hk => by
    unfold putK at hk
    by_cases c : (kvs.any fun kv => decide (kv.1 = rkey r.2.2)) = true
    · rw [if_pos c, List.map_map] at hk
      have e : ((fun x : List Key × V => x.1) ∘ fun kv : List Key × V => if kv.1 = rkey r.2.2 then (kv.1, V.ref r.1) else kv) = fun x => x.1 := by
        funext x
        show (if x.1 = rkey r.2.2 then (x.1, V.ref r.1) else x).1 = x.1
        by_cases c2 : x.1 = rkey r.2.2
        · rw [if_pos c2]
        · rw [if_neg c2]
      rw [e] at hk
      obtain ⟨q, hq, e1⟩ := t.keys k hk
      exact ⟨q, List.mem_append_left _ hq, e1⟩
    · rw [if_neg c, List.map_append, List.mem_append] at hk
      rcases hk with hk | hk
      · obtain ⟨q, hq, e1⟩ := t.keys k hk
        exact ⟨q, List.mem_append_left _ hq, e1⟩
      · exact ⟨r, List.mem_append_right _ (List.mem_singleton.mpr rfl), List.mem_singleton.mp hk⟩
  nd := by
    cases h : valV kvs (rkey r.2.2) with
    | none => exact nd_putK _ t.nd h
    | some v =>
      have c : (kvs.any fun kv => decide (kv.1 = rkey r.2.2)) = true := by rw [valV_any, h]; rfl
      unfold putK
      rw [if_pos c, List.map_map]
      have e : ((fun x : List Key × V => x.1) ∘ fun kv : List Key × V => if kv.1 = rkey r.2.2 then (kv.1, V.ref r.1) else kv) = fun x => x.1 := by
        funext x
        show (if x.1 = rkey r.2.2 then (x.1, V.ref r.1) else x).1 = x.1
        by_cases c2 : x.1 = rkey r.2.2
        · rw [if_pos c2]
        · rw [if_neg c2]
      rw [e]
      exact t.nd
  le := by
    have := length_putK kvs (rkey r.2.2) (V.ref r.1)
    have := t.le
    rw [List.length_append]
    show _ ≤ rs.length + 1
    omega
theorem tabR_ok (rs : List Rk3) : TabOk (tabR rs) rs := by
  have step : ∀ (a b : List Rk3) (kvs : List (List Key × V)), TabOk kvs a → TabOk (b.foldl (fun kvs r => putK kvs (rkey r.2.2) (V.ref r.1)) kvs) (a ++ b) := fun a b => by
    induction b generalizing a with
    | nil => intro kvs h; rw [List.append_nil]; exact h
    | cons r b ih =>
      intro kvs h
      have := ih (a ++ [r]) _ (h.put r)
      rw [List.append_assoc] at this
      exact this
  exact step [] rs [] ⟨fun _ _ m => (by cases m), fun _ _ h => (by cases h), fun _ m => (by cases m), List.nodup_nil, Nat.le_refl _⟩
/-- the row that a tuple holds -/
noncomputable def rowAt (H : Hp) (t : Addr) : List Str := open Classical in if h : ∃ row : List Str, H t = some (.tup (row.map V.str)) then h.choose else []
theorem rowAt_of {H : Hp} {t : Addr} {row : List Str} (h : H t = some (.tup (row.map V.str))) : rowAt H t = row := by
  have e : ∃ row : List Str, H t = some (.tup (row.map V.str)) := ⟨row, h⟩
  unfold rowAt
  rw [dif_pos e]
  have q := e.choose_spec
  have q2 := h.symm.trans q
  injection q2 with q2
  injection q2 with q2
  exact (strV_inj q2).symm
theorem rows_keys {H : Hp} {kvs : List (List Key × V)} {bs : List Addr} (h : IsKeys H kvs bs) (hk : ∀ k ∈ kvs.map (·.1), ∃ row, k = rkey row) : (bs.map (rowAt H)).map rkey = kvs.map (·.1) := by
  unfold IsKeys at h
  induction h with
  | nil => rfl
  | @cons p b ps bs e t ih =>
    obtain ⟨row, er⟩ := hk p.1 (List.mem_cons_self ..)
    rw [er, rkey_kV] at e
    rw [List.map_cons, List.map_cons, List.map_cons, rowAt_of e, er, ih fun k m => hk k (List.mem_cons_of_mem _ m)]
theorem keys_tup {H : Hp} {kvs : List (List Key × V)} {bs : List Addr} (h : IsKeys H kvs bs) (hk : ∀ k ∈ kvs.map (·.1), ∃ row, k = rkey row) : ∀ t ∈ bs, H t = some (.tup ((rowAt H t).map V.str)) := by
  unfold IsKeys at h
  induction h with
  | nil => intro t m; cases m
  | @cons p b ps bs e q ih =>
    intro t m
    obtain ⟨row, er⟩ := hk p.1 (List.mem_cons_self ..)
    rw [er, rkey_kV] at e
    rcases List.mem_cons.mp m with m | m
    · subst m
      rw [rowAt_of e]
      exact e
    · exact ih (fun k m => hk k (List.mem_cons_of_mem _ m)) t m
end MH
namespace MH
open PySem PySem.Spec PyProof.Rows L2
def hf (rt ts ct : Addr) : List (Str × V) := putF "_crest_masks" (.ref ct) (putF "_things" (.ref ts) (putF "_rankings" (.ref rt) []))
/-- the crest masks of the things, from the rows in order -/
def crestI (th : List Str) (rows : List (List Str)) (i : Nat) : List Int := greatI (rows.map fun row => (belowI th row).getD i 0)
/-- a house with these rows stands at x -/
def HsK (K : PySem.W.Frag) (C C2 : Addr) (H : Hp) (x : Addr) (th : List Str) (rows : List (List Str)) : Prop := ∃ (dx rt ts ct : Addr) (rs : List Rk3) (cs : List Addr), H x = some (.ins C2 dx (hf rt ts ct)) ∧ SqT K H rt (rs.map fun r => V.ref r.1) ∧ Rks K C H th rs ∧ rs.map (·.2.2) = rows ∧
  SqT K H ts (th.map V.str) ∧ SqT K H ct (cs.map V.ref) ∧ cs.length = th.length ∧ (∀ i c, cs[i]? = some c → SqT K H c ((crestI th rows i).map V.int)) ∧ rows ≠ [] ∧ rows.length ≤ 24 ∧ sortedS th = true ∧ rows.Pairwise fun a b => ltR a b = true
def spHInit (K : PySem.W.Frag) (C C2 : Addr) : Sp := fun vs H Q _ => ∃ (x dx p : Addr) (th : List Str) (rs : List Rk3), vs = [.ref x, .ref p] ∧ H x = some (.ins C2 dx []) ∧ SqT K H p (rs.map fun r => V.ref r.1) ∧ rs ≠ [] ∧ rs.length ≤ 24 ∧ Rks K C H th rs ∧ sortedS th = true ∧
  ∀ (rows : List (List Str)) H', SameB x H H' → (∀ r, r ∈ rows ↔ r ∈ rs.map (·.2.2)) → HsK K C C2 H' x th rows → Q .non H'
theorem rk_at {rs : List Rk3} {i : Nat} {y : V} (h : (rs.map fun r => V.ref r.1)[i]? = some y) : ∃ r, rs[i]? = some r ∧ y = V.ref r.1 := by
  rw [List.getElem?_map] at h
  cases e : rs[i]? with
  | none =>
    rw [e] at h
    cases h
  | some z =>
    rw [e] at h
    exact ⟨z, rfl, (Option.some.inj h).symm⟩
theorem ref_at {ts : List Addr} {i : Nat} {y : V} (h : (ts.map V.ref)[i]? = some y) : ∃ z, ts[i]? = some z ∧ y = V.ref z := by
  rw [List.getElem?_map] at h
  cases e : ts[i]? with
  | none =>
    rw [e] at h
    cases h
  | some z =>
    rw [e] at h
    exact ⟨z, rfl, (Option.some.inj h).symm⟩
section
variable {P : Program} {w : World} {K : PySem.W.Frag} {mg : Str → Option Value} {base : Heap}
theorem okR_HouseD_initD (T : Tx K mg) : FnR P w K mg base CX0 4 T.a_HouseD_initD (fun vs H Q _ => ∃ v rest, vs = v :: rest ∧ rest.length ≤ 60 ∧ ∀ p, H p = none → spHInit K T.C T.C2 [v, .ref p] (upd H p (.tup rest)) Q E0) := by
  refine fun_starN (k := 3) T.F_HouseD_initD sc_HouseD_initD T.bv_HouseD_initD fun cdv A outer s H vs Q hr h => ?_
  obtain ⟨x, dx, p, th, rs, rfl, hx, hp, hne, hz, hk, so, k⟩ := h
  have h0 : 0 < rs.length := List.length_pos_iff.mpr hne
  refine ⟨_, (pss_cons (ps_expr (pe_call (ok_check_rankings T) (hr.mono (by decide)) rfl T.g_check_rankings T.F_check_rankings.kp T.b_check_rankings .nil pass0 (pa_cons (pv 1) pa_nil)))
      (pss_cons (ps_set (i := 2) sc_HouseD_initD.nd rfl (Or.inr rfl) (pe_dcE (own := [("ranking", 6)]) (g := gName 6) (tt := tYes) hr.units rfl sc_HouseD_initD.nd (pi_tup (pv 1)) (blkOk_by (own := [("ranking", 6)]) (N := names_HouseD_initD) (sc := defScope st_HouseD_initD) (by decide +kernel)) (fun _ _ _ _ _ => ⟨pg_name (i := 6) sc_HouseD_initD.nd rfl (Or.inl rfl), pts_nil, (pe_prop (pv 6) T.cl T.p_row (ok_Ranking_row T) (hr.mono (by decide)) T.b_Ranking_row .nil pass0 (by rfl)), (pv 6)⟩)))
      (pss_cons (ps_set (i := 3) sc_HouseD_initD.nd rfl (Or.inl rfl) (pe_callB cr_sortedR (by rfl) T.n_sorted (by decide +kernel) (pa_cons (pe_callTy (call_listDE rfl) (by rfl) T.n_list (by decide +kernel) (pa_cons (pv 2) pa_nil)) pa_nil)))
      (pss_cons (ps_if (pt_cmpR op_gt (pe_callB call_len_seq (by rfl) T.n_len (by decide +kernel) (pa_cons (pv 3) pa_nil)) (pe_glob (v := .int 24) rfl T.g_MOST_PEOPLE.choose_spec ⟨_, rfl⟩) (nomark _))
        (pss_one ps_never)
        pss_nil)
      (pss_cons (ps_set (i := 4) sc_HouseD_initD.nd rfl (Or.inr rfl) (pe_prop (pe_ix ix_tup (pv 1) pe_int (fun _ _ => rfl)) T.cl T.p_things (ok_Ranking_things T) (hr.mono (by decide)) T.b_Ranking_things .nil pass0 (by rfl)))
      (pss_cons (ps_set (i := 5) sc_HouseD_initD.nd rfl (Or.inr rfl) (pe_lc (own := [("row", 7)]) (g := gName 7) (tt := tYes) rfl sc_HouseD_initD.nd (pi_list (pv 3)) (blkOk_by (own := [("row", 7)]) (N := names_HouseD_initD) (sc := defScope st_HouseD_initD) (by decide +kernel)) (fun _ _ _ _ _ => pg_name (i := 7) sc_HouseD_initD.nd rfl (Or.inl rfl)) (fun _ _ _ _ _ => pts_nil) (fun _ _ _ _ _ => (pe_call (ok_below_masks T) (hr.mono (by decide)) rfl T.g_below_masks T.F_below_masks.kp T.b_below_masks .nil pass0 (pa_cons (pv 7) (pa_cons (pv 4) pa_nil))))))
      (pss_cons (ps_fld (pv 0) (pe_callTy call_tupP (by rfl) T.n_tuple (by decide +kernel) (pa_cons (pe_lc (own := [("row", 7)]) (g := gName 7) (tt := tYes) rfl sc_HouseD_initD.nd (pi_list (pv 3)) (blkOk_by (own := [("row", 7)]) (N := names_HouseD_initD) (sc := defScope st_HouseD_initD) (by decide +kernel)) (fun _ _ _ _ _ => pg_name (i := 7) sc_HouseD_initD.nd rfl (Or.inl rfl)) (fun _ _ _ _ _ => pts_nil) (fun _ _ _ _ _ => (pe_dgetE (P := P) (w := w) rfl rfl (lt_1 hr.units) (pv 2) (pv 7) (fun _ _ => rfl)))) pa_nil)) rfl)
      (pss_cons (ps_fld (pv 0) (pv 4) rfl)
      (pss_one (ps_fld (pv 0) (pe_callTy call_tupP (by rfl) T.n_tuple (by decide +kernel) (pa_cons (pe_lc (own := [("at", 8)]) (g := gName 8) (tt := tYes) rfl sc_HouseD_initD.nd (pi_range1 (by rfl) T.n_range (pa_cons (pe_callB call_len_seq (by rfl) T.n_len (by decide +kernel) (pa_cons (pv 4) pa_nil)) pa_nil)) (blkOk_by (own := [("at", 8)]) (N := names_HouseD_initD) (sc := defScope st_HouseD_initD) (by decide +kernel)) (fun _ _ _ _ _ => pg_name (i := 8) sc_HouseD_initD.nd rfl (Or.inr rfl)) (fun _ _ _ _ _ => pts_nil) (fun _ _ _ _ _ => (pe_call (ok_greatest T) (hr.mono (by decide)) rfl T.g_greatest T.F_greatest.kp T.b_greatest .nil pass0 (pa_cons (pe_lc (wi := iList K (tVar 5)) (own := [("masks", 9)]) (g := gName 9) (tt := tYes) rfl sc_HouseD_initD.nd (pi_list (pv 5)) (blkOk_by (own := [("masks", 9)]) (N := names_HouseD_initD) (sc := ({ kind := .function, names := [(".0", .local), ("at", .cell), ("greatest", .globalImplicit), ("below", .cell)], isGenerator := false, isCoroutine := false } : Scope)) (by decide +kernel)) (fun _ _ _ _ _ => pg_name (i := 9) sc_HouseD_initD.nd rfl (Or.inl rfl)) (fun _ _ _ _ _ => pts_nil) (fun _ _ _ _ _ => (pe_ix (r := rIxL K) ix_list (pv 9) (pv 8) (fun _ _ => rfl)))) pa_nil)))) pa_nil)) rfl)))))))))), ?_⟩
  refine ⟨_, rfl, p, th, rs, rfl, hp, hne, by omega, hk, so, fun H1 s1 => ?_⟩
  refine ⟨_, rfl, p, rfl, ⟨_, s1.sqt hp⟩, fun D nD => deE_tup (K := K) (a := p) (xs := rs.map fun r => V.ref r.1) (fun i H' => Same H1 H' ∧ DictE P w H' D (tabR (rs.take i))) ⟨Same.new nD, [], upd_same, .nil⟩ (fun i H' _ h => h.1.sqt (s1.sqt hp)) ?_ ?_⟩
  · rintro i y H2 hy ⟨s2, xs, ed, ek⟩
    obtain ⟨r, hr1, rfl⟩ := rk_at hy
    obtain ⟨rk, pm⟩ := hk r (List.mem_of_getElem? hr1)
    have rk2 := (rk.same s1).same s2
    obtain ⟨dxr, tsr, thr, hxr, _⟩ := id rk2
    have hi : i < rs.length := (List.getElem?_eq_some_iff.mp hr1).1
    have tl := (tabR_ok (rs.take i)).le
    rw [List.length_take] at tl
    refine ⟨rfl, ?_⟩
    refine ⟨_, rfl, r.1, dxr, _, rfl, hxr, _, _, _, rfl, rk2, _, rfl, tabR (rs.take i), rkey r.2.2, r.2.1, xs, rfl, (by rw [rkey_kV]; exact rk2.tup), ed, ek, lt_line (by omega), fun xs' ek' => ⟨fun b o h => ?_, xs', upd_same, ?_⟩⟩
    · rw [upd_ne (ne_of_none h nD)]
      exact s2 _ _ h
    · rw [tabR_take hr1]
      exact ek'
  · rintro H2 ⟨s2, e2⟩
    rw [List.length_map, List.take_length] at e2
    have tb := tabR_ok rs
    have hp2 := (s1.trans s2).sqt hp
    have s02 := s1.trans s2
    have hk2 : Rks K T.C H2 th rs := fun r hr => ⟨(hk r hr).1.same s02, (hk r hr).2⟩
    have kr : ∀ k ∈ (tabR rs).map (·.1), ∃ row, k = rkey row := fun k hk => let ⟨r, _, e⟩ := tb.keys k hk; ⟨r.2.2, e⟩
    refine ⟨_, rfl, D, tabR rs, rfl, e2, fun L bs nL ik => ?_⟩
    have kt : ∀ t ∈ bs, TupO H2 t ((rowAt (dn H2) t).map V.str) := fun t ht => dn_tup (keys_tup ik kr t ht)
    have rks := rows_keys ik kr
    have sL : Same H2 (upd H2 L (.lst (bs.map V.ref))) := Same.new nL
    -- each row of the table is a row of a ranking
    have rowOf : ∀ t ∈ bs, ∃ r ∈ rs, rowAt (dn H2) t = r.2.2 := fun t ht => by
      have m : rkey (rowAt (dn H2) t) ∈ (tabR rs).map (·.1) := by
        rw [← rks]
        exact List.mem_map.mpr ⟨_, List.mem_map.mpr ⟨t, ht, rfl⟩, rfl⟩
      obtain ⟨r, hr, e⟩ := tb.keys _ m
      exact ⟨r, hr, rkey_inj e⟩
    refine ⟨L, bs, rowAt (dn H2), rfl, lst_of upd_same, fun t ht => ⟨((kt t ht).same sL).sqt, ?_⟩, fun ts q pmt srt nq => ?_⟩
    · obtain ⟨r, hr, e⟩ := rowOf t ht
      rw [e]
      exact (hk2 r hr).1.ok.ne
    have sq : Same H2 (upd (upd H2 L (.lst (bs.map V.ref))) q (.lst (ts.map V.ref))) := sL.new' nq
    have hq : (upd (upd H2 L (.lst (bs.map V.ref))) q (.lst (ts.map V.ref))) q = some (.lst (ts.map V.ref)) := upd_same
    generalize upd (upd H2 L (.lst (bs.map V.ref))) q (.lst (ts.map V.ref)) = H3 at sq hq ⊢
    have kt3 : ∀ t ∈ ts, TupO H3 t ((rowAt (dn H2) t).map V.str) := fun t ht => (kt t (pmt.subset ht)).same sq
    have rowOf3 : ∀ t ∈ ts, ∃ r ∈ rs, rowAt (dn H2) t = r.2.2 := fun t ht => rowOf t (pmt.subset ht)
    have lb : bs.length ≤ rs.length := by
      have e := congrArg List.length rks
      rw [List.length_map, List.length_map, List.length_map] at e
      have := tb.le
      omega
    have lt3 : ts.length ≤ rs.length := by
      rw [pmt.length_eq]
      exact lb
    have nd3 : (ts.map (rowAt (dn H2))).Nodup := by
      refine ((pmt.map (rowAt (dn H2))).nodup_iff).mpr ?_
      have z := tb.nd
      rw [← rks] at z
      exact List.Pairwise.of_map rkey (fun a b h e => h (by rw [e])) z
    have pw : (ts.map (rowAt (dn H2))).Pairwise fun a b => ltR a b = true := by
      refine List.Pairwise.imp₂ (R := fun x y => ltR y x = false) (S := fun x y => x ≠ y) (fun a b h1 h2 => ?_) srt nd3
      cases e : ltR a b with
      | true => rfl
      | false => exact absurd (ltR_tri a b e h1) h2
    have mem3 : ∀ r, r ∈ ts.map (rowAt (dn H2)) ↔ r ∈ rs.map (·.2.2) := fun r => by
      rw [(pmt.map (rowAt (dn H2))).mem_iff]
      constructor
      · intro m
        obtain ⟨t, ht, e⟩ := List.mem_map.mp m
        obtain ⟨r', hr', e'⟩ := rowOf t ht
        exact List.mem_map.mpr ⟨r', hr', by rw [← e, e']⟩
      · intro m
        have z : valV (tabR rs) (rkey r) ≠ none := fun z => tb.none r z m
        obtain ⟨v, hv⟩ := Option.ne_none_iff_exists'.mp z
        have w := valV_in hv
        rw [← rks] at w
        obtain ⟨r2, h2, e2⟩ := List.mem_map.mp w
        rw [← rkey_inj e2]
        exact h2
    refine ⟨_, rfl, q, _, rfl, .inl (lst_of hq), _, _, rfl, rfl, _, rfl, ifF (decide_eq_false (by rw [List.length_map]; omega)) ?_⟩
    obtain ⟨r0, e0⟩ : ∃ r, rs[0]? = some r := ⟨rs[0], List.getElem?_eq_getElem h0⟩
    have m0 := List.mem_of_getElem? e0
    have e0' : (rs.map fun r => V.ref r.1)[0]? = some (V.ref r0.1) := by
      rw [List.getElem?_map, e0]
      rfl
    obtain ⟨rk0, pm0⟩ := hk2 r0 m0
    have rk03 := rk0.same sq
    obtain ⟨dx0, tsx0, thx0, hx0, _⟩ := id rk03
    refine ⟨_, rfl, p, _, _, _, rfl, rfl, sq.sqt hp2, atI_nat (j := 0) e0', r0.1, dx0, _, rfl, hx0, _, _, _, rfl, rk03, fun ta tu hu pu su => ?_⟩
    obtain rfl := sorted_one (pu.trans pm0.symm) su so
    have ndt : tu.Nodup := pm0.nodup_iff.mpr rk0.ok.nd
    have lth : tu.length ≤ 10 := by
      rw [pm0.length_eq]
      exact rk0.ok.le
    refine ⟨_, rfl, q, rfl, ⟨_, lst_of hq⟩, fun B nB => lc_list (K := K) (a := q) (xs := ts.map V.ref) (fun i H' => Same H3 H' ∧ ∃ ms : List Addr, H' B = some (.lst (ms.map V.ref)) ∧ ms.length = i ∧ (∀ m ∈ ms, m ≠ B) ∧ ∀ j m t, ms[j]? = some m → ts[j]? = some t → H' m = some (.lst ((belowI tu (rowAt (dn H2) t)).map V.int)))
      ⟨Same.new nB, ([] : List Addr), upd_same, rfl, fun _ h => (by cases h), fun j m t h _ => nomatch ((List.getElem?_nil (α := Addr) (i := j)).symm.trans h)⟩ (fun i H' _ h => lst_of (h.1 _ _ hq)) ?_ ?_⟩
    · rintro i y H4 hy ⟨s4, ms, eB, lm, nms, hms⟩
      obtain ⟨t, ht, rfl⟩ := ref_at hy
      have mt := List.mem_of_getElem? ht
      have it : i < ts.length := (List.getElem?_eq_some_iff.mp ht).1
      obtain ⟨r, hr4, er⟩ := rowOf3 t mt
      have prt : (rowAt (dn H2) t).Perm tu := by
        rw [er]
        exact (hk2 r hr4).2.symm
      refine ⟨rfl, ?_⟩
      refine ⟨_, rfl, _, rfl, t, ta, rowAt (dn H2) t, tu, rfl, ((kt3 t mt).same s4).sqt, s4.sqt hu, prt, ndt, by omega, fun M H5 nM s5 eM => ?_⟩
      have nMB : M ≠ B := fun e => by
        rw [e, eB] at nM
        cases nM
      refine ⟨_, s5 _ _ eB, lt_line (by rw [List.length_map]; omega), fun b o h => ?_, ms ++ [M], ?_, ?_, fun m hm => ?_, fun j m t' hj ht' => ?_⟩
      · rw [upd_ne (ne_of_none h nB)]
        exact s5 _ _ (s4 _ _ h)
      · rw [upd_same, List.map_append]
        rfl
      · rw [List.length_append, lm]
        rfl
      · rcases List.mem_append.mp hm with z | z
        · exact nms m z
        · rw [List.mem_singleton.mp z]
          exact nMB
      · by_cases c : j < ms.length
        · rw [List.getElem?_append_left c] at hj
          rw [upd_ne (nms m (List.mem_of_getElem? hj))]
          exact s5 _ _ (hms j m t' hj ht')
        · rw [List.getElem?_append_right (by omega)] at hj
          have ej : j - ms.length = 0 := by
            cases e : j - ms.length with
            | zero => rfl
            | succ n =>
              rw [e] at hj
              cases hj
          rw [ej] at hj
          obtain rfl : M = m := Option.some.inj hj
          obtain rfl : j = i := by omega
          obtain rfl : t = t' := Option.some.inj (ht.symm.trans ht')
          rw [upd_ne nMB]
          exact eM
    · rintro H4 ⟨s4, ms, eB, lm, nms, hms⟩
      have s24 := sq.trans s4
      have e4 := e2.same s24
      have valOf : ∀ t ∈ ts, ∃ r ∈ rs, r.2.2 = rowAt (dn H2) t ∧ valV (tabR rs) (rkey (rowAt (dn H2) t)) = some (V.ref r.1) := fun t ht => by
        cases z : valV (tabR rs) (rkey (rowAt (dn H2) t)) with
        | none => exact absurd ((mem3 _).mp (List.mem_map.mpr ⟨t, ht, rfl⟩)) (tb.none _ z)
        | some v =>
          obtain ⟨r, hr, e1, e2⟩ := tb.some _ _ z
          exact ⟨r, hr, e1, by rw [e2]⟩
      refine ⟨_, rfl, q, rfl, ⟨_, lst_of (s4 _ _ hq)⟩, fun R nR => lc_list (K := K) (a := q) (xs := ts.map V.ref) (fun i H' => Same H4 H' ∧ ∃ xs : List Rk3, H' R = some (.lst (xs.map fun r => V.ref r.1)) ∧ xs.map (·.2.2) = (ts.take i).map (rowAt (dn H2)) ∧ ∀ r ∈ xs, r ∈ rs)
        ⟨Same.new nR, ([] : List Rk3), upd_same, rfl, fun _ h => (by cases h)⟩ (fun i H' _ h => lst_of (h.1 _ _ (s4 _ _ hq))) ?_ ?_⟩
      · rintro i y H5 hy ⟨s5, xs, eR, exs, hxs⟩
        obtain ⟨t, ht, rfl⟩ := ref_at hy
        have mt := List.mem_of_getElem? ht
        obtain ⟨r, hr5, er, ev⟩ := valOf t mt
        have lx : xs.length ≤ ts.length := by
          have z := congrArg List.length exs
          rw [List.length_map, List.length_map, List.length_take] at z
          omega
        refine ⟨rfl, ?_⟩
        refine ⟨_, rfl, _, rfl, D, t, tabR rs, rkey (rowAt (dn H2) t), V.ref r.1, rfl, rfl, e4.same s5, (by rw [rkey_kV]; exact ((kt3 t mt).same s4).same s5), ev, _, eR, lt_line (by rw [List.length_map]; omega), fun b o h => ?_, xs ++ [r], ?_, ?_, fun m hm => ?_⟩
        · rw [upd_ne (ne_of_none h nR)]
          exact s5 _ _ h
        · rw [upd_same, List.map_append]
          rfl
        · rw [List.map_append, exs, List.take_add_one, ht, List.map_append]
          exact congrArg _ (congrArg (fun z => [z]) er)
        · rcases List.mem_append.mp hm with z | z
          · exact hxs m z
          · rw [List.mem_singleton.mp z]
            exact hr5
      · rintro H5 ⟨s5, xs, eR, exs, hxs⟩
        rw [List.length_map, List.take_length] at exs
        refine ⟨R, _, rfl, .inl ⟨lst_of eR, fun rt nrt => ?_⟩⟩
        have s5H : Same H H5 := s02.trans (s24.trans s5)
        have nxr : x ≠ rt := ne_of_none (s5H _ _ hx) nrt
        have hx6 : (upd H5 rt (.tup (xs.map fun r => V.ref r.1))) x = some (.ins T.C2 dx []) := by
          rw [upd_ne nxr]
          exact s5H _ _ hx
        have s6 : Same H5 (upd H5 rt (.tup (xs.map fun r => V.ref r.1))) := Same.new nrt
        have er6 : (upd H5 rt (.tup (xs.map fun r => V.ref r.1))) rt = some (.tup (xs.map fun r => V.ref r.1)) := upd_same
        refine ⟨_, rfl, x, T.C2, dx, _, rfl, hx6, T.cl2, T.no__rankings2, (by show 0 < 1000; decide), ?_⟩
        refine ⟨_, rfl, _, rfl, x, T.C2, dx, _, rfl, upd_same, T.cl2, T.no__things2, (by show 1 < 1000; decide), ?_⟩
        generalize upd H5 rt (.tup (xs.map fun r => V.ref r.1)) = H6 at hx6 s6 er6 ⊢
        have sb8 : SameB x H6 (upd (upd H6 x (.ins T.C2 dx (putF "_rankings" (.ref rt) []))) x (.ins T.C2 dx (putF "_things" (.ref ta) (putF "_rankings" (.ref rt) [])))) := ((SameB.refl x H6).put).put
        have hx8 : (upd (upd H6 x (.ins T.C2 dx (putF "_rankings" (.ref rt) []))) x (.ins T.C2 dx (putF "_things" (.ref ta) (putF "_rankings" (.ref rt) [])))) x = some (.ins T.C2 dx (putF "_things" (.ref ta) (putF "_rankings" (.ref rt) []))) := upd_same
        generalize upd (upd H6 x (.ins T.C2 dx (putF "_rankings" (.ref rt) []))) x (.ins T.C2 dx (putF "_things" (.ref ta) (putF "_rankings" (.ref rt) []))) = H8 at sb8 hx8 ⊢
        have lx : ∀ {b : Addr} {o : HO}, (∀ fs, o ≠ .ins T.C2 dx fs) → H6 b = some o → H8 b = some o := fun {b o} ho e => sb8 b o (fun z => by
          rw [z, hx6] at e
          exact ho _ (Option.some.inj e).symm) e
        have hu8 : SqT K H8 ta (tu.map V.str) := sqt_but sb8 hx6 ((s4.trans (s5.trans s6)).sqt hu)
        have eB8 : H8 B = some (.lst (ms.map V.ref)) := lx (fun _ z => by cases z) (s6 _ _ (s5 _ _ eB))
        have hms8 : ∀ j m t, ms[j]? = some m → ts[j]? = some t → H8 m = some (.lst ((belowI tu (rowAt (dn H2) t)).map V.int)) := fun j m t h1 h2 => lx (fun _ z => by cases z) (s6 _ _ (s5 _ _ (hms j m t h1 h2)))
        refine ⟨_, rfl, ta, _, rfl, .inr hu8, _, rfl, by omega, by rw [List.length_map]; omega, fun Cr nCr => lc_range (lo := 0) (n := ((((tu.map V.str).length : Nat) : Int)).toNat) (fun i H' => Same H8 H' ∧ ∃ cs : List Addr, H' Cr = some (.lst (cs.map V.ref)) ∧ cs.length = i ∧ ∀ j c, cs[j]? = some c → SqT K H' c ((crestI tu (ts.map (rowAt (dn H2))) j).map V.int))
          ⟨Same.new nCr, ([] : List Addr), upd_same, rfl, fun j c h => nomatch ((List.getElem?_nil (α := Addr) (i := j)).symm.trans h)⟩ ?_ ?_⟩
        · rintro i H9 hi ⟨s9, cs, eC, lc, hcs⟩
          have hi2 : i < tu.length := by
            rw [List.length_map] at hi
            omega
          have lbl : ∀ row, (belowI tu row).length = tu.length := fun row => List.length_map _
          refine ⟨rfl, ?_⟩
          refine ⟨_, rfl, B, rfl, ⟨_, lst_of (s9 _ _ eB8)⟩, fun M nM => lc_list (K := K) (a := B) (xs := ms.map V.ref) (fun l H' => Same H9 H' ∧ H' M = some (.lst (((ts.take l).map fun t => (belowI tu (rowAt (dn H2) t)).getD i 0).map V.int)))
            ⟨Same.new nM, upd_same⟩ (fun l H' _ h => lst_of (h.1 _ _ (s9 _ _ eB8))) ?_ ?_⟩
          · rintro l y H10 hy ⟨s10, eM⟩
            obtain ⟨m, hm, rfl⟩ := ref_at hy
            have ll : l < ts.length := by
              have := (List.getElem?_eq_some_iff.mp hm).1
              rw [List.length_map] at lm
              omega
            have ht : ts[l]? = some ts[l] := List.getElem?_eq_getElem ll
            have em := s10 _ _ (s9 _ _ (hms8 l m _ hm ht))
            generalize ts[l] = t at ht em
            have gi : ((belowI tu (rowAt (dn H2) t)).map V.int)[i]? = some (V.int ((belowI tu (rowAt (dn H2) t)).getD i 0)) := by
              rw [List.getElem?_map, List.getD_eq_getElem?_getD, List.getElem?_eq_getElem (by rw [lbl]; exact hi2)]
              rfl
            refine ⟨rfl, ?_⟩
            refine ⟨_, rfl, _, rfl, m, _, _, _, rfl, rfl, lst_of em, (by rw [Int.zero_add]; exact atI_nat gi), _, eM, lt_line (by rw [List.length_map, List.length_map, List.length_take]; omega), fun b o h => ?_, ?_⟩
            · rw [upd_ne (ne_of_none h nM)]
              exact s10 _ _ h
            · rw [upd_same, List.take_add_one, ht, List.map_append, List.map_append]
              rfl
          · rintro H10 ⟨s10, eM⟩
            rw [List.length_map, lm, List.length_map, List.take_length] at eM
            refine ⟨M, _, rfl, lst_of eM, by rw [List.length_map]; omega, fun c H11 s11 hc => ?_⟩
            have eC11 := s11 _ _ (s10 _ _ eC)
            have eg : greatI (ts.map fun t => (belowI tu (rowAt (dn H2) t)).getD i 0) = crestI tu (ts.map (rowAt (dn H2))) i := by
              unfold crestI
              rw [List.map_map]
              rfl
            rw [eg] at hc
            have keep : ∀ {a : Addr} {zs : List V}, SqT K H11 a zs → SqT K (upd H11 Cr (.lst (cs.map V.ref ++ [V.ref c]))) a zs := fun {a zs} h => SameB.sqt ((SameB.refl Cr H11).put) eC11 h
            refine ⟨_, eC11, lt_line (by rw [List.length_map]; omega), fun b o h => ?_, cs ++ [c], ?_, ?_, fun j c' hj => ?_⟩
            · rw [upd_ne (ne_of_none h nCr)]
              exact s11 _ _ (s10 _ _ (s9 _ _ h))
            · rw [upd_same, List.map_append]
              rfl
            · rw [List.length_append, lc]
              rfl
            · by_cases cc : j < cs.length
              · rw [List.getElem?_append_left cc] at hj
                exact keep ((s10.trans s11).sqt (hcs j c' hj))
              · rw [List.getElem?_append_right (by omega)] at hj
                have ej : j - cs.length = 0 := by
                  cases e : j - cs.length with
                  | zero => rfl
                  | succ n =>
                    rw [e] at hj
                    cases hj
                rw [ej] at hj
                obtain rfl : c = c' := Option.some.inj hj
                obtain rfl : j = i := by omega
                exact keep hc
        · rintro H9 ⟨s9, cs, eC, lc, hcs⟩
          refine ⟨Cr, _, rfl, .inl ⟨lst_of eC, fun ct nct => ?_⟩⟩
          have nxc : x ≠ ct := ne_of_none (s9 _ _ hx8) nct
          have hx10 : (upd H9 ct (.tup (cs.map V.ref))) x = some (.ins T.C2 dx (putF "_things" (.ref ta) (putF "_rankings" (.ref rt) []))) := by
            rw [upd_ne nxc]
            exact s9 _ _ hx8
          have s10 : Same H9 (upd H9 ct (.tup (cs.map V.ref))) := Same.new nct
          have ec10 : (upd H9 ct (.tup (cs.map V.ref))) ct = some (.tup (cs.map V.ref)) := upd_same
          refine ⟨_, rfl, x, T.C2, dx, _, rfl, hx10, T.cl2, T.no__crest_masks2, (by show 2 < 1000; decide), ?_⟩
          generalize upd H9 ct (.tup (cs.map V.ref)) = H10 at hx10 s10 ec10 ⊢
          have s810 := s9.trans s10
          have b10 : SameB x H10 (upd H10 x (.ins T.C2 dx (putF "_crest_masks" (.ref ct) (putF "_things" (.ref ta) (putF "_rankings" (.ref rt) []))))) := (SameB.refl x H10).put
          have bF : SameB x H6 (upd H10 x (.ins T.C2 dx (putF "_crest_masks" (.ref ct) (putF "_things" (.ref ta) (putF "_rankings" (.ref rt) []))))) := fun b o nb e => b10 b o nb (s810 _ _ (sb8 b o nb e))
          have s26 : Same H2 H6 := s24.trans (s5.trans s6)
          have nrt6 : rt ≠ x := fun z => by
            rw [z, hx6] at er6
            cases er6
          refine k (ts.map (rowAt (dn H2))) _ (fun b o nb e => bF b o nb (s6 _ _ (s5H _ _ e))) mem3 ⟨dx, rt, ta, ct, xs, cs, upd_same, tup_of (bF _ _ nrt6 er6), fun r hr => ?_, exs, sqt_but bF hx6 ((s4.trans (s5.trans s6)).sqt hu), tup_of (b10 _ _ nxc.symm ec10), ?_, fun j c hj => sqt_but b10 hx10 (s10.sqt (hcs j c hj)), ?_, ?_, so, pw⟩
          · obtain ⟨rk, pm⟩ := hk2 r (hxs r hr)
            refine ⟨?_, pm⟩
            obtain ⟨dxr, tsr, thr, g1, g2, g3, g4⟩ := rk.same s26
            have n1 : r.1 ≠ x := fun z => by
              rw [z, hx6] at g1
              injection g1 with g1
              injection g1 with _ _ g1
              have w := pf_row r.2.1 tsr
              rw [← g1] at w
              cases w
            have n2 : r.2.1 ≠ x := g2.ne hx6 (by intro o q; cases q)
            exact ⟨dxr, tsr, thr, bF _ _ n1 g1, g2.sb bF n2, sqt_but bF hx6 g3, g4⟩
          · rw [lc, List.length_map]
            rfl
          · intro z
            have m : r0.2.2 ∈ ts.map (rowAt (dn H2)) := (mem3 _).mpr (List.mem_map.mpr ⟨r0, m0, rfl⟩)
            rw [z] at m
            cases m
          · rw [List.length_map]
            omega
end
end MH
namespace MH
open PySem PySem.Spec PyProof.Rows L2
theorem hf_r (rt ts ct : Addr) : (hf rt ts ct).lookup ("_rankings" : Str) = some (.ref rt) := by
  unfold hf
  rw [lookup_putF, if_neg (by decide +kernel), lookup_putF, if_neg (by decide +kernel), lookup_putF, if_pos rfl]
theorem hf_t (rt ts ct : Addr) : (hf rt ts ct).lookup ("_things" : Str) = some (.ref ts) := by
  unfold hf
  rw [lookup_putF, if_neg (by decide +kernel), lookup_putF, if_pos rfl]
theorem hf_c (rt ts ct : Addr) : (hf rt ts ct).lookup ("_crest_masks" : Str) = some (.ref ct) := by
  unfold hf
  rw [lookup_putF, if_pos rfl]
theorem HsK.same {K : PySem.W.Frag} {C C2 x : Addr} {H H' : Hp} {th : List Str} {rows : List (List Str)} (h : HsK K C C2 H x th rows) (s : Same H H') : HsK K C C2 H' x th rows := by
  obtain ⟨dx, rt, ts, ct, rs, cs, h1, h2, h3, h4, h5, h6, h7, h8, h9⟩ := h
  exact ⟨dx, rt, ts, ct, rs, cs, s _ _ h1, s.sqt h2, fun r hr => ⟨(h3 r hr).1.same s, (h3 r hr).2⟩, h4, s.sqt h5, s.sqt h6, h7, fun i c hc => s.sqt (h8 i c hc), h9⟩
def houseTxt (rows : List (List Str)) : Str := Txt.join "; " (rows.map (Txt.join " "))
theorem house_le {rows : List (List Str)} (h : ∀ r ∈ rows, RowOk r) (l : rows.length ≤ 24) : ((rows.map (Txt.join " ")).map (·.length)).sum + (rows.map (Txt.join " ")).length * (("; " : Str)).length ≤ 16777216 := by
  have a : ∀ l : List (List Str), (∀ r ∈ l, RowOk r) → ((l.map (Txt.join " ")).map (·.length)).sum ≤ l.length * 1000 := fun l hl => by
    induction l with
    | nil => exact Nat.le_refl _
    | cons r l ih =>
      have a := joined_len (hl r List.mem_cons_self)
      have b := ih fun y hy => hl y (List.mem_cons_of_mem _ hy)
      rw [List.map_cons, List.map_cons, List.sum_cons, List.length_cons]
      omega
  have b := a rows h
  have e : (("; " : Str)).length = 2 := rfl
  rw [e, List.length_map]
  omega
theorem HsK.ok {K : PySem.W.Frag} {C C2 x : Addr} {H : Hp} {th : List Str} {rows : List (List Str)} (h : HsK K C C2 H x th rows) : (∀ r ∈ rows, RowOk r ∧ th.Perm r) ∧ rows ≠ [] ∧ rows.length ≤ 24 ∧ sortedS th = true ∧ rows.Pairwise fun a b => ltR a b = true := by
  obtain ⟨dx, rt, ts, ct, rs, cs, h1, h2, h3, h4, h5, h6, h7, h8, h9⟩ := h
  refine ⟨fun r hr => ?_, h9⟩
  rw [← h4] at hr
  obtain ⟨z, hz, rfl⟩ := List.mem_map.mp hr
  exact ⟨(h3 z hz).1.ok, (h3 z hz).2⟩
end MH
namespace MH
open PySem PySem.Spec PyProof.Rows L2
theorem depth_all {α : Type} {f : α → PyData} {m : Nat} (h : ∀ a, PyData.depth (f a) ≤ m) : ∀ is : List α, PyData.depthAll (is.map f) ≤ m
  | [] => Nat.zero_le _
  | i :: r => by
    have := depth_all h r
    have := h i
    simp only [List.map_cons, PyData.depthAll]
    omega
end MH
namespace MH
open PySem PySem.Spec PyProof.Rows L2
/-- a list of the rows of a house -/
def RowsAt (H : Hp) (l : Addr) (ts : List Addr) (rows : List (List Str)) : Prop := H l = some (.lst (ts.map V.ref)) ∧ ts.length = rows.length ∧ ∀ (j : Nat) (t : Addr) (r : List Str), ts[j]? = some t → rows[j]? = some r → TupO H t (r.map V.str)
theorem RowsAt.same {H H' : Hp} {l : Addr} {ts : List Addr} {rows : List (List Str)} (h : RowsAt H l ts rows) (s : Same H H') : RowsAt H' l ts rows := ⟨s _ _ h.1, h.2.1, fun j t r h1 h2 => (h.2.2 j t r h1 h2).same s⟩
/-- rows that a house may have -/
structure RowsOk (th : List Str) (rows : List (List Str)) : Prop where
  ok : ∀ r ∈ rows, RowOk r ∧ th.Perm r
  ne : rows ≠ []
  le : rows.length ≤ 24
  so : sortedS th = true
  pw : rows.Pairwise fun a b => ltR a b = true
def spAreRows : Sp := fun vs H Q _ => ∃ (l : Addr) (ts : List Addr) (th : List Str) (rows : List (List Str)), vs = [.ref l] ∧ RowsAt H l ts rows ∧ RowsOk th rows ∧ ∀ H', Same H H' → Q (.bl true) H'
section
variable {P : Program} {w : World} {K : PySem.W.Frag} {mg : Str → Option Value} {base : Heap}
theorem ok_are_rows_of_a_house (T : Tx K mg) : FnOk P w K mg base CX0 3 T.a_are_rows_of_a_house T.fd_are_rows_of_a_house ["rows"] spAreRows := by
  refine T.F_are_rows_of_a_house.ok sc_are_rows_of_a_house (fun vs H Q E h => ?_) (fun cdv A outer s H vs Q E hr h => ?_)
  · obtain ⟨l, ts, th, rows, rfl, _⟩ := h
    rfl
  · obtain ⟨l, ts, th, rows, rfl, ra, ro, k⟩ := h
    refine ⟨_, (pss_cons (ps_if (pt_cmpR op_gt (pe_callB call_len_seq (by rfl) T.n_len (by decide +kernel) (pa_cons (pv 0) pa_nil)) (pe_glob (v := .int 24) rfl T.g_MOST_PEOPLE.choose_spec ⟨_, rfl⟩) (nomark _))
        (pss_one (ps_ret pe_bl))
        pss_nil)
      (pss_cons (ps_for PassesOwn.never rfl (pi_list (pv 0)) (pg_name (i := 1) sc_are_rows_of_a_house.nd rfl (Or.inl rfl))
        (pss_one (ps_if (PW.pt (pw_or (pt_cmpR op_notN (pe_call (ok_first_wrong_in_row T) (hr.mono (by decide)) rfl T.g_first_wrong_in_row T.F_first_wrong_in_row.kp T.b_first_wrong_in_row .nil pass0 (pa_cons (pv 1) pa_nil)) pe_non (nomark _)) (pw_or1 (pt_cmpR (op_neD hr.units) (pe_callB cr_sortedU (by rfl) T.n_sorted (by decide +kernel) (pa_cons (pv 1) pa_nil)) (pe_callB cr_sortedU (by rfl) T.n_sorted (by decide +kernel) (pa_cons (pe_ix ix_list (pv 0) pe_int (fun _ _ => rfl)) pa_nil)) (nomark _)))))
        (pss_one (ps_ret pe_bl))
        pss_nil)))
      (pss_one (ps_ret (pe_callB (cr_all rfl) (by rfl) T.n_all (by decide +kernel) (pa_cons (pe_lc (own := [("row", 1), ("later", 2)]) (g := gTup K 2 (gCons (gName 1) (gCons (gName 2) gNil))) (tt := tYes) rfl sc_are_rows_of_a_house.nd (RZ.pi_zipA (by rfl) T.n_zip (pa_cons (pv 0) (pa_cons (pe_slice sl_list (pv 0) (po_some pe_int) po_none) pa_nil))) (blkOk_by (own := [("row", 1), ("later", 2)]) (N := names_are_rows_of_a_house) (sc := defScope st_are_rows_of_a_house) (by decide +kernel)) (fun _ _ _ _ _ => pg_tup rfl (pgs_cons (pg_name (i := 1) sc_are_rows_of_a_house.nd rfl (Or.inl rfl)) (pgs_cons (pg_name (i := 2) sc_are_rows_of_a_house.nd rfl (Or.inl rfl)) pgs_nil))) (fun _ _ _ _ _ => pts_nil) (fun _ _ _ _ _ => (pe_cmpR (r := rLtR K) (op_ltR hr.units0) (pv 1) (pv 2) (nomark _)))) pa_nil)))))), ?_⟩
    have le := ro.le
    have e0 := ra.1
    refine ⟨_, rfl, l, _, rfl, .inl (lst_of e0), _, _, rfl, rfl, _, rfl, ifF (decide_eq_false (by rw [List.length_map, ra.2.1]; omega)) ?_⟩
    have at_ : ∀ (j : Nat) (t : Addr), ts[j]? = some t → ∃ r, rows[j]? = some r ∧ TupO H t (r.map V.str) ∧ RowOk r ∧ th.Perm r := fun j t h => by
      have hj : j < rows.length := by
        rw [← ra.2.1]
        exact (List.getElem?_eq_some_iff.mp h).1
      have g : rows[j]? = some rows[j] := List.getElem?_eq_getElem hj
      exact ⟨_, g, ra.2.2 j t _ h g, ro.ok _ (List.getElem_mem hj)⟩
    have h0 : 0 < rows.length := List.length_pos_iff.mpr ro.ne
    obtain ⟨t0, ht0⟩ : ∃ t, ts[0]? = some t := ⟨ts[0]'(by rw [ra.2.1]; exact h0), List.getElem?_eq_getElem _⟩
    obtain ⟨r0, hr0, e00, ok0, pm0⟩ := at_ 0 t0 ht0
    have e0' : (ts.map V.ref)[0]? = some (V.ref t0) := by
      rw [List.getElem?_map, ht0]
      rfl
    refine ⟨_, rfl, l, rfl, ⟨_, lst_of e0⟩, for_list (K := K) (a := l) (xs := ts.map V.ref) (fun i σ H' => Same H H' ∧ ∃ v, σ = [some (.ref l), v, none]) ⟨Same.refl H, none, rfl⟩ (fun i σ H' _ h => lst_of (h.1 _ _ e0)) ?_ ?_⟩
    · rintro i x σ H1 hx ⟨s1, v, rfl⟩
      obtain ⟨t, ht, rfl⟩ := ref_at hx
      obtain ⟨r, hr1, et, rok, pm⟩ := at_ i t ht
      refine ⟨_, rfl, t, r, rfl, (et.same s1).sqt, (fun z hz => Nat.le_trans (nameOk_len (rok.ok z hz)) (by decide)), fun H2 s2 => ?_⟩
      rw [badS_ok rok]
      refine ⟨rfl, _, rfl, ifF rfl ?_⟩
      have s12 := s1.trans s2
      have hz1 : r.length < 64 := by
        have := rok.le
        omega
      have hz0 : r0.length < 64 := by
        have := ok0.le
        omega
      refine ⟨_, rfl, t, r, rfl, (et.same s12).sqt, hz1, fun ys p pm1 so1 np => ?_⟩
      have sp := s12.new' np (o := .lst (ys.map V.str))
      refine ⟨_, rfl, l, _, _, _, rfl, rfl, lst_of (sp _ _ e0), atI_nat (j := 0) e0', t0, r0, rfl, (e00.same sp).sqt, hz0, fun ys0 p0 pm2 so2 np0 => ?_⟩
      have e1 : ys = ys0 := sorted_one (pm1.trans (pm.symm.trans (pm0.trans pm2.symm))) so1 so2
      have np' : p ≠ p0 := fun z => by
        rw [← z, upd_same] at np0
        cases np0
      have oky : ∀ z ∈ ys, nameOk z = true := fun z hz => rok.ok z (pm1.subset hz)
      refine ⟨_, _, .lst (lst_of (by rw [upd_ne np']; exact upd_same)) (dp_strs ys), .lst (lst_of upd_same) (dp_strs ys0), shaped_strsL oky, shaped_strsL (e1 ▸ oky), ?_⟩
      rw [eqv_strsL, decide_eq_true e1]
      exact ⟨_, rfl, ifF rfl ⟨sp.new' np0, _, rfl⟩⟩
    · rintro σ H1 ⟨s1, v, rfl⟩
      have e1 := s1 _ _ e0
      refine ⟨_, rfl, _, rfl, 1, rfl, ?_⟩
      dsimp only [tNoPart]
      refine ⟨l, _, rfl, lst_of e1, fun S nS => ?_⟩
      have cS : cutV (ts.map V.ref) (some (1 : Int)) none = (ts.drop 1).map V.ref := by
        rw [show (1 : Int) = ((1 : Nat) : Int) from rfl, cut_from, List.map_drop]
      rw [cS]
      have sS := s1.new' nS (o := .lst ((ts.drop 1).map V.ref))
      have eS : (upd H1 S (.lst ((ts.drop 1).map V.ref))) S = some (.lst ((ts.drop 1).map V.ref)) := upd_same
      generalize upd H1 S (.lst ((ts.drop 1).map V.ref)) = H2 at sS eS ⊢
      refine ⟨l, S, _, _, rfl, .inl ⟨lst_of (sS _ _ e0), lst_of eS, fun D nD => lc_it (walk_zip (K := K) (a := l) (b := S) (xs := ts.map V.ref) (ys := (ts.drop 1).map V.ref) rfl) (fun i H' => Same H2 H' ∧ H' D = some (.lst ((List.replicate i true).map V.bl)))
        ⟨Same.new nD, upd_same⟩ (fun i H' _ h => ⟨lst_of (h.1 _ _ (sS _ _ e0)), lst_of (h.1 _ _ eS)⟩) ?_ ?_⟩⟩
      · rintro i x H3 H4 hi ⟨s3, e3⟩ ⟨p, y1, y2, rfl, np, rfl, ee1, ee2⟩
        obtain ⟨t, ht, rfl⟩ := ref_at ee1
        obtain ⟨t', ht', rfl⟩ := ref_at ee2
        rw [List.getElem?_drop] at ht'
        obtain ⟨r, hr1, et, rok, pm⟩ := at_ i t ht
        obtain ⟨r', hr1', et', rok', pm'⟩ := at_ (1 + i) t' ht'
        have lt : ltR r r' = true := by
          obtain ⟨g1, q1⟩ := List.getElem?_eq_some_iff.mp hr1
          obtain ⟨g2, q2⟩ := List.getElem?_eq_some_iff.mp hr1'
          rw [← q1, ← q2]
          exact List.pairwise_iff_getElem.mp ro.pw i (1 + i) g1 g2 (by omega)
        have s4 := s3.new' np (o := .tup [.ref t, .ref t'])
        have nDp : D ≠ p := ne_of_none e3 np
        have e4 := (upd_ne (o := .tup [.ref t, .ref t']) nDp).trans e3
        have i2 : i < ts.length := (List.getElem?_eq_some_iff.mp ht).1
        have l2 := ra.2.1
        refine ⟨p, _, rfl, tup_of upd_same, rfl, _, _, rfl, _, _, rfl, rfl, rfl, ?_⟩
        refine ⟨_, rfl, _, rfl, t, t', r, r', rfl, rfl, (et.same (sS.trans s4)).sqt, (et'.same (sS.trans s4)).sqt, _, e4, lt_line (by rw [List.length_map, List.length_replicate]; omega), fun b o h => ?_, ?_⟩
        · rw [upd_ne (ne_of_none h nD)]
          exact s4 _ _ h
        · rw [upd_same, lt, List.replicate_succ', List.map_append]
          rfl
      · rintro H3 ⟨s3, e3⟩
        refine ⟨D, _, rfl, lst_of e3, ?_⟩
        rw [show (List.replicate (min (ts.map V.ref).length ((ts.drop 1).map V.ref).length) true).all id = true by simp]
        exact k H3 (sS.trans s3)
end
end MH
namespace MH
open PySem PySem.Spec PyProof.Rows L2
def spHRead (K : PySem.W.Frag) (C C2 : Addr) : Sp := fun vs H Q _ => ∃ (th : List Str) (rows : List (List Str)), vs = [.ref C2, .str (houseTxt rows)] ∧ RowsOk th rows ∧ ∀ x' H', Same H H' → HsK K C C2 H' x' th rows → Q (.ref x') H'
theorem mem_joinL {S : List Nat} {c : Nat} : ∀ {ps : List (List Nat)}, c ∈ TL.joinL S ps → c ∈ S ∨ ∃ p ∈ ps, c ∈ p
  | [], h => by cases h
  | [p], h => .inr ⟨p, List.mem_singleton.mpr rfl, h⟩
  | p :: q :: r, h => by
    rcases List.mem_append.mp (show c ∈ p ++ (S ++ TL.joinL S (q :: r)) from h) with m | m
    · exact .inr ⟨p, List.mem_cons_self .., m⟩
    · rcases List.mem_append.mp m with m | m
      · exact .inl m
      · rcases mem_joinL m with m | ⟨p', hp, m⟩
        · exact .inl m
        · exact .inr ⟨p', List.mem_cons_of_mem _ hp, m⟩
theorem no_semi {z : Str} (h : nameOk z = true) : (59 : Nat) ∉ TL.tl z := by
  intro m
  unfold nameOk at h
  simp only [Bool.and_eq_true, decide_eq_true_eq] at h
  have q := h.2.2.2
  rw [List.all_eq_true] at q
  have w := q 59 m
  revert w
  decide +kernel
theorem no_semi_row {row : List Str} (h : RowOk row) : (59 : Nat) ∉ TL.tl (Txt.join " " row) := by
  rw [TL.join_eq, TL.tl_join]
  intro m
  rcases mem_joinL m with m | ⟨p, hp, m⟩
  · revert m
    decide +kernel
  · obtain ⟨z, hz, rfl⟩ := List.mem_map.mp hp
    exact no_semi (h.ok z hz) m
theorem split_row {row : List Str} (ro : RowOk row) : Txt.split (Txt.join " " row) " " = row :=
  TL.split_join (s := 32) (S := []) (by decide +kernel) (by decide +kernel) ro.ne fun z hz => no_blank (ro.ok z hz)
theorem split_house {rows : List (List Str)} (ne : rows ≠ []) (ok : ∀ r ∈ rows, RowOk r) : Txt.split (houseTxt rows) "; " = rows.map (Txt.join " ") :=
  TL.split_join (s := 59) (S := [32]) (by decide +kernel) (by decide +kernel) (fun e => ne (List.map_eq_nil_iff.mp e)) fun z hz => by
    obtain ⟨r, hr, rfl⟩ := List.mem_map.mp hz
    exact no_semi_row (ok r hr)
theorem house_len {rows : List (List Str)} (h : ∀ r ∈ rows, RowOk r) (l : rows.length ≤ 24) : (houseTxt rows).length ≤ 50000 := by
  have e : houseTxt rows = Str.join "; " (rows.map (Txt.join " ")) := TL.join_eq "; " _
  have a := PySem.StrLaws.join_length_le "; " (rows.map (Txt.join " "))
  have b : ∀ l : List (List Str), (∀ r ∈ l, RowOk r) → ((l.map (Txt.join " ")).map (·.length)).sum ≤ l.length * 1000 := fun l hl => by
    induction l with
    | nil => exact Nat.le_refl _
    | cons r l ih =>
      have a := joined_len (hl r List.mem_cons_self)
      have b := ih fun y hy => hl y (List.mem_cons_of_mem _ hy)
      rw [List.map_cons, List.map_cons, List.sum_cons, List.length_cons]
      omega
  have c := b rows h
  have d : ("; " : Str).length = 2 := rfl
  rw [e]
  rw [d, List.length_map] at a
  omega
theorem rows_nd {rows : List (List Str)} (h : rows.Pairwise fun a b => ltR a b = true) : rows.Nodup := h.imp fun {a b} h e => by
  rw [e, ltR_irrefl] at h
  cases h
/-- rows in order are told by what they are -/
theorem rows_one {rows rows' : List (List Str)} (h : rows.Pairwise fun a b => ltR a b = true) (h' : rows'.Pairwise fun a b => ltR a b = true) (m : ∀ r, r ∈ rows' ↔ r ∈ rows) : rows' = rows := by
  refine List.Perm.eq_of_pairwise (le := fun a b => ltR a b = true) (fun a b _ _ h1 h2 => ?_) h' h ((List.perm_ext_iff_of_nodup (rows_nd h') (rows_nd h)).mpr m)
  rw [ltR_asym _ _ h1] at h2
  cases h2
section
variable {P : Program} {w : World} {K : PySem.W.Frag} {mg : Str → Option Value} {base : Heap}
theorem ok_House_read (T : Tx K mg) : FnOk P w K mg base CX0 6 T.a_House_read T.fd_House_read ["cls", "text"] (spHRead K T.C T.C2) := by
  refine T.F_House_read.ok sc_House_read (fun vs H Q E h => ?_) (fun cdv A outer s H vs Q E hr h => ?_)
  · obtain ⟨th, rows, rfl, _⟩ := h
    rfl
  · obtain ⟨th, rows, rfl, ro, k⟩ := h
    have h5 := ro.le
    refine ⟨_, (pss_cons (ps_if (pt_not (pt_val (pe_callB call_isi (by rfl) T.n_isinstance (by decide +kernel) (pa_cons (pv 1) (pa_cons (pe_bltn (v := .ty "str") (by rfl) T.n_str (by decide +kernel) rfl) pa_nil)))))
        (pss_one ps_never)
        pss_nil)
      (pss_cons (ps_setLc (i := 2) (own := [("part", 4)]) (g := gName 4) (tt := tYes) rfl sc_House_read.nd rfl rfl (sw_true rfl rfl rfl (by decide +kernel)) (pi_list (pe_split (pv 1) pe_str)) (blkOk_by (own := [("part", 4)]) (N := names_House_read) (sc := defScope st_House_read) (by decide +kernel)) (fun _ _ _ _ _ => pg_name (i := 4) sc_House_read.nd rfl (Or.inl rfl)) (fun _ _ _ _ _ => pts_nil) (fun _ _ _ _ _ => (pe_callTy (r := rTupF K) (T := "tuple") call_tupF (by rfl) T.n_tuple (by decide +kernel) (pa_cons (pe_split (pv 4) pe_str) pa_nil))))
      (pss_cons (ps_if (pt_not (pt_val (pe_call (ok_are_rows_of_a_house T) (hr.mono (by decide)) rfl T.g_are_rows_of_a_house T.F_are_rows_of_a_house.kp T.b_are_rows_of_a_house .nil pass0 (pa_cons (pv 2) pa_nil))))
        (pss_one ps_never)
        pss_nil)
      (pss_cons (ps_setLc (i := 3) (own := [("row", 5)]) (g := gName 5) (tt := tYes) rfl sc_House_read.nd rfl rfl (sw_true rfl rfl rfl (by decide +kernel)) (pi_list (pv 2)) (blkOk_by (own := [("row", 5)]) (N := names_House_read) (sc := defScope st_House_read) (by decide +kernel)) (fun _ _ _ _ _ => pg_name (i := 5) sc_House_read.nd rfl (Or.inl rfl)) (fun _ _ _ _ _ => pts_nil) (fun _ _ _ _ _ => (pe_make T.mkc (ok_RankingD_initD T) (hr.mono (by decide)) rfl T.g_Ranking T.b_RankingD_initD .nil pass0 (pa_cons (pv 5) pa_nil))))
      (pss_one (ps_ret (pe_makeSV T.mkc2 (okR_HouseD_initD T) (hr.mono (by decide)) (pv 0) pass0 (pv 3)))))))), ?_⟩
    refine ⟨_, rfl, _, _, _, _, true, rfl, .ty _, .base (.str _), kit_ty (by decide +kernel), true, rfl, iteF ?_⟩
    have rok : ∀ r ∈ rows, RowOk r := fun r hr => (ro.ok r hr).1
    refine ⟨_, rfl, ⟨_, rfl⟩, _, _, rfl, rfl, by decide, ?_, ?_⟩
    · have := house_len rok ro.le
      exact le_line (by omega)
    rw [split_house ro.ne rok]
    intro l nl
    have s0 := Same.new nl (o := .lst ((rows.map (Txt.join " ")).map V.str))
    have e0 : (upd H l (.lst ((rows.map (Txt.join " ")).map V.str))) l = some (.lst ((rows.map (Txt.join " ")).map V.str)) := upd_same
    generalize upd H l (.lst ((rows.map (Txt.join " ")).map V.str)) = H0 at s0 e0 ⊢
    refine ⟨l, rfl, ⟨_, lst_of e0⟩, fun R nR => lc_list (K := K) (a := l) (xs := (rows.map (Txt.join " ")).map V.str) (fun i H' => Same H0 H' ∧ ∃ ts : List Addr, H' R = some (.lst (ts.map V.ref)) ∧ ts.length = i ∧ ∀ (j : Nat) (t : Addr) (r : List Str), ts[j]? = some t → rows[j]? = some r → TupO H' t (r.map V.str))
      ⟨Same.new nR, ([] : List Addr), upd_same, rfl, fun j t r h _ => nomatch ((List.getElem?_nil (α := Addr) (i := j)).symm.trans h)⟩ (fun i H' _ h => lst_of (h.1 _ _ e0)) ?_ ?_⟩
    · rintro i x H1 hx ⟨s1, ts, eR, lt, hts⟩
      obtain ⟨z, hz, rfl⟩ := str_at hx
      obtain ⟨r, hr1, rfl⟩ : ∃ r, rows[i]? = some r ∧ z = Txt.join " " r := by
        rw [List.getElem?_map] at hz
        cases e : rows[i]? with
        | none =>
          rw [e] at hz
          cases hz
        | some r =>
          rw [e] at hz
          exact ⟨r, rfl, (Option.some.inj hz).symm⟩
      have rk := rok r (List.mem_of_getElem? hr1)
      have hi : i < rows.length := (List.getElem?_eq_some_iff.mp hr1).1
      have jl := joined_len rk
      refine ⟨rfl, ?_⟩
      refine ⟨_, rfl, ⟨_, rfl⟩, _, _, rfl, rfl, by decide, le_line (by omega), ?_⟩
      rw [split_row rk]
      intro l2 nl2
      refine ⟨l2, _, rfl, .inl ⟨lst_of upd_same, fun u ou nu du => ?_⟩⟩
      have s2 := (Same.new nl2 (o := .lst (r.map V.str))).new' nu (o := .frz ou (.tup (r.map V.str)))
      have eu : TupO (upd (upd H1 l2 (.lst (r.map V.str))) u (.frz ou (.tup (r.map V.str)))) u (r.map V.str) := tupO_new du
      have eR2 := s2 _ _ eR
      generalize upd (upd H1 l2 (.lst (r.map V.str))) u (.frz ou (.tup (r.map V.str))) = H2 at s2 eu eR2 ⊢
      have nuR : u ≠ R := eu.ne eR2 (by intro o q; cases q)
      refine ⟨_, eR2, lt_line (by rw [List.length_map]; omega), fun b o h => ?_, ts ++ [u], ?_, ?_, fun j t r' hj hr' => ?_⟩
      · rw [upd_ne (ne_of_none h nR)]
        exact s2 _ _ (s1 _ _ h)
      · rw [upd_same, List.map_append]
        rfl
      · rw [List.length_append, lt]
        rfl
      · by_cases c : j < ts.length
        · rw [List.getElem?_append_left c] at hj
          exact ((hts j t r' hj hr').same s2).up eR2 (by intro o q; cases q)
        · rw [List.getElem?_append_right (by omega)] at hj
          have ej : j - ts.length = 0 := by
            cases e : j - ts.length with
            | zero => rfl
            | succ n =>
              rw [e] at hj
              cases hj
          rw [ej] at hj
          obtain rfl : u = t := Option.some.inj hj
          obtain rfl : j = i := by omega
          obtain rfl : r = r' := Option.some.inj (hr1.symm.trans hr')
          exact eu.up eR2 (by intro o q; cases q)
    · rintro H1 ⟨s1, ts, eR, lt, hts⟩
      rw [List.length_map, List.length_map] at lt
      refine ⟨_, rfl, R, ts, th, rows, rfl, ⟨eR, lt, hts⟩, ro, fun H2 s2 => ⟨_, rfl, ifF rfl ?_⟩⟩
      refine ⟨_, rfl, R, rfl, ⟨_, lst_of (s2 _ _ eR)⟩, fun L nL => lc_list (K := K) (a := R) (xs := ts.map V.ref) (fun i H' => Same H2 H' ∧ ∃ rs : List Rk3, H' L = some (.lst (rs.map fun r => V.ref r.1)) ∧ rs.map (·.2.2) = rows.take i ∧ ∀ r ∈ rs, RkK K T.C H' r.1 r.2.1 r.2.2)
        ⟨Same.new nL, ([] : List Rk3), upd_same, rfl, fun _ h => (by cases h)⟩ (fun i H' _ h => lst_of (h.1 _ _ (s2 _ _ eR))) ?_ ?_⟩
      · rintro i y H3 hy ⟨s3, rs, eL, ers, hrs⟩
        obtain ⟨t, ht, rfl⟩ := ref_at hy
        have it : i < ts.length := (List.getElem?_eq_some_iff.mp ht).1
        have hr1 : rows[i]? = some (rows[i]'(by omega)) := List.getElem?_eq_getElem _
        generalize rows[i]'(by omega) = r at hr1
        have rk := rok r (List.mem_of_getElem? hr1)
        have et := ((hts i t r ht hr1).same s2).same s3
        have lx : rs.length ≤ rows.length := by
          have z := congrArg List.length ers
          rw [List.length_map, List.length_take] at z
          omega
        have le := ro.le
        refine ⟨rfl, ?_⟩
        refine ⟨_, rfl, fun y dy ny ndy hne2 => ⟨y, dy, t, r, rfl, upd_same, ?_, rk, fun H4 s4 rk4 => ⟨rfl, ?_⟩⟩⟩
        · refine (et.upN ndy).upN ?_
          rw [upd_ne hne2.symm]
          exact ny
        · have s34 : Same H3 H4 := fun b o h => by
            have nb : b ≠ y := ne_of_none h ny
            refine s4 b o nb ?_
            rw [upd_ne nb, upd_ne (ne_of_none h ndy)]
            exact h
          have eL4 := s34 _ _ eL
          have keep : ∀ {zs : List V} {x t : Addr} {row : List Str}, RkK K T.C H4 x t row → RkK K T.C (upd H4 L (.lst zs)) x t row := fun {zs x t row} h => h.sameB ((SameB.refl L H4).put) eL4
          refine ⟨_, eL4, lt_line (by rw [List.length_map]; omega), fun b o h => ?_, rs ++ [(y, t, r)], ?_, ?_, fun q hq => ?_⟩
          · rw [upd_ne (ne_of_none h nL)]
            exact s34 _ _ (s3 _ _ h)
          · rw [upd_same, List.map_append]
            rfl
          · rw [List.map_append, ers, List.take_add_one, hr1]
            rfl
          · rcases List.mem_append.mp hq with z | z
            · exact keep ((hrs q z).same s34)
            · rw [List.mem_singleton.mp z]
              exact keep rk4
      · rintro H3 ⟨s3, rs, eL, ers, hrs⟩
        rw [List.length_map, lt, List.take_length] at ers
        have lrs : rs.length = rows.length := by
          have z := congrArg List.length ers
          rw [List.length_map] at z
          exact z
        have rks : ∀ {H' : Hp}, Same H3 H' → Rks K T.C H' th rs := fun {H'} s q hq => ⟨(hrs q hq).same s, (ro.ok _ (by rw [← ers]; exact List.mem_map.mpr ⟨q, hq, rfl⟩)).2⟩
        refine ⟨_, rfl, rfl, _, rfl, L, _, rfl, .inr (lst_of eL), fun x dx nx ndx hne2 => ⟨_, _, rfl, by rw [List.length_map]; omega, fun p np => ⟨x, dx, p, th, rs, rfl, ?_, tup_of upd_same, ?_, by omega, rks ?_, ro.so, fun rows' H4 s4 m hs => ⟨rfl, ?_⟩⟩⟩⟩
        · have nxp : x ≠ p := fun z => by
            rw [← z, upd_same] at np
            cases np
          rw [upd_ne nxp]
          exact upd_same
        · intro z
          rw [z] at ers
          exact ro.ne ers.symm
        · refine Same.new' (Same.new' (Same.new ndx) ?_) np
          rw [upd_ne hne2.symm]
          exact nx
        · rw [ers] at m
          obtain rfl := rows_one ro.pw hs.ok.2.2.2.2 m
          refine k x H4 (fun b o h => ?_) hs
          have h3 := s3 _ _ (s2 _ _ (s1 _ _ (s0 _ _ h)))
          have nb : b ≠ x := ne_of_none h3 nx
          refine s4 b o nb ?_
          have h4 : (upd (upd H3 dx (.own x)) x (.ins T.C2 dx [])) b = some o := by
            rw [upd_ne nb, upd_ne (ne_of_none h3 ndx)]
            exact h3
          rw [upd_ne (ne_of_none h4 np)]
          exact h4
end
end MH
namespace MH
open PySem PySem.Spec PyProof.Rows L2
theorem eqv_rows (r : List Str) : ∀ rows : List (List Str), ((rows.map fun x => PyData.tuple (x.map PyData.str)).any fun z => PyData.eqv z (.tuple (r.map PyData.str))) = decide (r ∈ rows)
  | [] => rfl
  | x :: rows => by
    rw [List.map_cons, List.any_cons, eqv_rows r rows, eqv_strs]
    by_cases e : x = r
    · subst e
      simp
    · rw [decide_eq_false e]
      by_cases m : r ∈ rows
      · simp [m]
      · rw [decide_eq_false m, decide_eq_false (fun h => (List.mem_cons.mp h).elim (fun z => e z.symm) m)]
        rfl
theorem dp_rows {K : PySem.W.Frag} {H : Hp} : ∀ {ts : List Addr} {rows : List (List Str)}, ts.length = rows.length → (∀ (j : Nat) (t : Addr) (r : List Str), ts[j]? = some t → rows[j]? = some r → TupO H t (r.map V.str)) → DpAll K H (ts.map V.ref) (rows.map fun x => PyData.tuple (x.map PyData.str))
  | [], [], _, _ => .nil
  | [], _ :: _, h, _ => by cases h
  | _ :: _, [], h, _ => by cases h
  | t :: ts, r :: rows, h, hd => .cons (.tup ((hd 0 t r rfl rfl).sqt) (dp_strs r)) (dp_rows (by simpa using h) fun j t' r' h1 h2 => hd (j + 1) t' r' h1 h2)
theorem RowOk.perm {a b : List Str} (h : RowOk a) (p : b.Perm a) : RowOk b where
  ne := fun e => by
    rw [e] at p
    exact h.ne (List.nil_perm.mp p)
  le := by rw [p.length_eq]; exact h.le
  nd := p.nodup_iff.mpr h.nd
  ok := fun z hz => h.ok z (p.subset hz)
theorem okDs_rows {rows : List (List Str)} (h : ∀ r ∈ rows, RowOk r) : okDs (rows.map fun x => PyData.tuple (x.map PyData.str)) = true := by
  induction rows with
  | nil => rfl
  | cons r rows ih =>
    show (okD (.tuple (r.map PyData.str)) && okDs (rows.map fun x => PyData.tuple (x.map PyData.str))) = true
    rw [ih fun x hx => h x (List.mem_cons_of_mem _ hx)]
    have e : okD (.tuple (r.map PyData.str)) = true := okDs_strs fun z hz => nameOk_str ((h r (List.mem_cons_self ..)).ok z hz)
    rw [e]
    rfl
theorem shaped_rows {rows : List (List Str)} (h : ∀ r ∈ rows, RowOk r) : SeqAt.shaped (.list (rows.map fun x => PyData.tuple (x.map PyData.str))) = true := by
  refine shaped_of (d := .list _) (okDs_rows h) ?_
  have d1 : ∀ x : List Str, PyData.depth (PyData.tuple (x.map PyData.str)) ≤ 1 := fun x => by
    simp only [PyData.depth, depth_strs]
    decide
  have := depth_all d1 rows
  simp only [PyData.depth]
  omega
/-- rows found so far: each of these things, none twice -/
structure Fnd (H : Hp) (F : Addr) (ts : List Addr) (rows : List (List Str)) (th : List Str) : Prop where
  at_ : RowsAt H F ts rows
  nd : rows.Nodup
  ne : rows ≠ []
  pm : ∀ r ∈ rows, r.Perm th
def spRowsL (K : PySem.W.Frag) : Sp := fun vs H Q _ => ∃ (p t : Addr) (th : List Str) (m : Int), vs = [.ref p, .ref t, .int m] ∧ Pu H p ∧ SqT K H t (th.map V.str) ∧ RowOk th ∧ sortedS th = true ∧ 0 < m ∧ m ≤ 24 ∧
  ∀ (l : Addr) (ts : List Addr) (rows : List (List Str)) (H' : Hp), SameB p H H' → Pu H' p → RowsAt H' l ts rows → RowsOk th rows → rows.length ≤ m.toNat → Q (.ref l) H'
end MH
namespace MH
open PySem PySem.Spec PyProof.Rows L2
def strOf : V → Option Str
  | .str z => some z
  | _ => none
theorem strs_of : ∀ {row : List V} {ss : List Str}, (∀ v ∈ row, v ∈ ss.map V.str) → row = (row.filterMap strOf).map V.str
  | [], _, _ => rfl
  | v :: row, ss, h => by
    obtain ⟨z, _, rfl⟩ := List.mem_map.mp (h v List.mem_cons_self)
    have ih := strs_of (row := row) (ss := ss) fun u hu => h u (List.mem_cons_of_mem _ hu)
    show V.str z :: row = V.str z :: (row.filterMap strOf).map V.str
    rw [← ih]
theorem filter_strs : ∀ ss : List Str, (ss.map V.str).filterMap strOf = ss
  | [] => rfl
  | z :: r => congrArg (z :: ·) (filter_strs r)
theorem perm_strs {row : List V} {ss : List Str} (pm : row.Perm (ss.map V.str)) : ∃ r : List Str, row = r.map V.str ∧ r.Perm ss := by
  refine ⟨row.filterMap strOf, strs_of fun v hv => pm.subset hv, ?_⟩
  have := pm.filterMap strOf
  rw [filter_strs] at this
  exact this
theorem RowsAt.but {H H' : Hp} {p l : Addr} {ts : List Addr} {rows : List (List Str)} {zs : List V} (h : RowsAt H l ts rows) (s : SameB p H H') (hp : H p = some (.lst zs)) (n : l ≠ p) : RowsAt H' l ts rows :=
  ⟨s _ _ n h.1, h.2.1, fun j t r h1 h2 => (h.2.2 j t r h1 h2).sb s ((h.2.2 j t r h1 h2).ne hp (by intro o q; cases q))⟩
theorem RowsAt.snoc {H : Hp} {l u : Addr} {ts : List Addr} {rows : List (List Str)} {r : List Str} (h : RowsAt H l ts rows) (hu : TupO H u (r.map V.str)) : RowsAt (upd H l (.lst (ts.map V.ref ++ [V.ref u]))) l (ts ++ [u]) (rows ++ [r]) := by
  have keep : ∀ {b : Addr} {xs : List V}, TupO H b xs → TupO (upd H l (.lst (ts.map V.ref ++ [V.ref u]))) b xs := fun {b xs} e => e.up h.1 (by intro o q; cases q)
  refine ⟨?_, ?_, fun j t q h1 h2 => ?_⟩
  · rw [upd_same, List.map_append]
    rfl
  · rw [List.length_append, List.length_append, h.2.1]
    rfl
  · by_cases c : j < ts.length
    · rw [List.getElem?_append_left c] at h1
      rw [List.getElem?_append_left (by rw [← h.2.1]; exact c)] at h2
      exact keep (h.2.2 j t q h1 h2)
    · rw [List.getElem?_append_right (by omega)] at h1
      rw [List.getElem?_append_right (by rw [← h.2.1]; omega), ← h.2.1] at h2
      have ej : j - ts.length = 0 := by
        cases e : j - ts.length with
        | zero => rfl
        | succ n =>
          rw [e] at h1
          cases h1
      rw [ej] at h1 h2
      obtain rfl : u = t := Option.some.inj h1
      obtain rfl : r = q := Option.some.inj h2
      exact keep hu
/-- rows found, in order -/
theorem rowsOk_of {th : List Str} {rows rows' : List (List Str)} (ro : RowOk th) (so : sortedS th = true) (pm : rows'.Perm rows) (nd : rows.Nodup) (ne : rows ≠ []) (h : ∀ r ∈ rows, r.Perm th) (le : rows.length ≤ 24) (srt : rows'.Pairwise fun x y => ltR y x = false) : RowsOk th rows' where
  ok := fun r hr => by
    have q := h r (pm.subset hr)
    exact ⟨ro.perm q, q.symm⟩
  ne := fun e => by
    rw [e] at pm
    exact ne (List.nil_perm.mp pm)
  le := by rw [pm.length_eq]; exact le
  so := so
  pw := by
    refine List.Pairwise.imp₂ (R := fun x y => ltR y x = false) (S := fun x y => x ≠ y) (fun a b h1 h2 => ?_) srt (pm.nodup_iff.mpr nd)
    cases e : ltR a b with
    | true => rfl
    | false => exact absurd (ltR_tri a b e h1) h2
theorem rowsAt_get {H : Hp} {l : Addr} {ts : List Addr} {rows : List (List Str)} (h : RowsAt H l ts rows) {t : Addr} (ht : t ∈ ts) : ∃ r ∈ rows, TupO H t (r.map V.str) := by
  obtain ⟨j, hj, rfl⟩ := List.getElem_of_mem ht
  have hj2 : j < rows.length := by
    rw [← h.2.1]
    exact hj
  exact ⟨rows[j], List.getElem_mem hj2, h.2.2 j _ _ (List.getElem?_eq_getElem hj) (List.getElem?_eq_getElem hj2)⟩
theorem rowsAt_map {H : Hp} {l : Addr} {ts : List Addr} {rows : List (List Str)} (h : RowsAt H l ts rows) : ts.map (rowAt (dn H)) = rows := by
  refine List.ext_getElem? fun i => ?_
  rw [List.getElem?_map]
  cases e : ts[i]? with
  | none =>
    rw [List.getElem?_eq_none_iff] at e
    exact (List.getElem?_eq_none_iff.mpr (by rw [← h.2.1]; exact e)).symm
  | some t =>
    have hi := (List.getElem?_eq_some_iff.mp e).1
    have g : rows[i]? = some (rows[i]'(by rw [← h.2.1]; exact hi)) := List.getElem?_eq_getElem _
    rw [g]
    exact congrArg some (rowAt_of (dn_of (h.2.2 i t _ e g)))
theorem dp_rowsAt {K : PySem.W.Frag} {H : Hp} {l : Addr} {ts : List Addr} {rows : List (List Str)} (h : RowsAt H l ts rows) : Dp K H (.ref l) (.list (rows.map fun x => PyData.tuple (x.map PyData.str))) := .lst (lst_of h.1) (dp_rows h.2.1 h.2.2)
section
variable {P : Program} {w : World} {K : PySem.W.Frag} {mg : Str → Option Value} {base : Heap}
theorem ok_l_rows (T : Tx K mg) : FnOk P w K mg base CX0 11 T.a_l_rows T.fd_l_rows ["_law_purse_here", "_law_things_here", "_law_most"] (spRowsL K) := by
  refine T.F_l_rows.ok sc_l_rows (fun vs H Q E h => ?_) (fun cdv A outer s H vs Q E hr h => ?_)
  · obtain ⟨p, t, th, m, rfl, _⟩ := h
    rfl
  · obtain ⟨p, t, th, m, rfl, pu, hT, ro, so, m0, m24, k⟩ := h
    refine ⟨_, (pss_cons (ps_set (i := 3) sc_l_rows.nd rfl (Or.inl rfl) (pe_lst (pa_cons (pe_call (ok_l_order T) (hr.mono (by decide)) rfl T.g_l_order T.F_l_order.kp T.b_l_order .nil pass0 (pa_cons (pv 0) (pa_cons (pv 1) pa_nil))) pa_nil)))
      (pss_cons (ps_for PassesOwn.never rfl (pi_range1 (by rfl) T.n_range (pa_cons (pe_call (ok_l_draw T) (hr.mono (by decide)) rfl T.g_l_draw T.F_l_draw.kp T.b_l_draw .nil pass0 (pa_cons (pv 0) (pa_cons (pv 2) pa_nil))) pa_nil)) (pg_name (i := 4) sc_l_rows.nd rfl (Or.inl rfl))
        (pss_cons (ps_par (i := 5) (j := 6) rfl sc_l_rows.nd rfl rfl (by decide) rfl rfl (pa_cons (pe_call (ok_l_draw T) (hr.mono (by decide)) rfl T.g_l_draw T.F_l_draw.kp T.b_l_draw .nil pass0 (pa_cons (pv 0) (pa_cons pe_int pa_nil))) (pa_cons (pe_ix ix_list (pv 3) (pe_un un_neg pe_int) (fun _ _ => rfl)) pa_nil)) (by rfl))
      (pss_cons (ps_set (i := 7) sc_l_rows.nd rfl (Or.inl rfl) (pe_backF (pv 6)))
      (pss_cons (ps_if (pt_cmpR op_lt (pv 5) pe_int (nomark _))
        (pss_one (ps_set (i := 7) sc_l_rows.nd rfl (Or.inl rfl) (pe_ifExp (pt_cmpR op_eq (pv 5) pe_int (nomark _)) (pe_call (ok_l_order T) (hr.mono (by decide)) rfl T.g_l_order T.F_l_order.kp T.b_l_order .nil pass0 (pa_cons (pv 0) (pa_cons (pv 1) pa_nil))) (pe_call (ok_l_near T) (hr.mono (by decide)) rfl T.g_l_near T.F_l_near.kp T.b_l_near .nil pass0 (pa_cons (pv 0) (pa_cons (pv 6) pa_nil))))))
        pss_nil)
      (pss_one (ps_if (pt_cmpR (op_notInD (u65 hr)) (pv 7) (pv 3) (by rfl))
        (pss_one (ps_expr (pe_bm PySem.F.plainAttrs_list PySem.F.slot_list_append PySem.F.type_list_append mt_append (pv 3) (pa_cons (pv 7) pa_nil))))
        pss_nil))))))
      (pss_one (ps_ret (pe_callB cr_sortedR (by rfl) T.n_sorted (by decide +kernel) (pa_cons (pv 3) pa_nil)))))), ?_⟩
    have thl := ro.le
    refine ⟨_, rfl, _, rfl, p, t, _, rfl, pu, hT, by rw [List.length_map]; omega, fun row0 a0 H1 pm0 sb1 pu1 ha0 => ?_⟩
    obtain ⟨r0, rfl, pr0⟩ := perm_strs pm0
    refine ⟨(by show 1 ≤ sizeLine; decide), fun F nF => ?_⟩
    have npF : F ≠ p := fun e => by
      obtain ⟨_, _, q, _⟩ := id pu1
      rw [← e, nF] at q
      cases q
    have sb2 : SameB p H (upd H1 F (.lst [.ref a0])) := sb1.new nF
    have pu2 := pu1.same (Same.new nF (o := .lst [.ref a0]))
    have f0 : Fnd (upd H1 F (.lst [.ref a0])) F [a0] [r0] th := {
      at_ := ⟨upd_same, rfl, fun j t r h1 h2 => by
        match j, h1, h2 with
        | 0, h1, h2 =>
          obtain rfl : a0 = t := Option.some.inj h1
          obtain rfl : r0 = r := Option.some.inj h2
          exact ha0.same (Same.new nF)⟩
      nd := List.nodup_cons.mpr ⟨List.not_mem_nil, List.nodup_nil⟩
      ne := fun e => by cases e
      pm := fun r hr => by
        rw [List.mem_singleton.mp hr]
        exact pr0 }
    generalize upd H1 F (.lst [.ref a0]) = H2 at sb2 pu2 f0 ⊢
    refine ⟨_, rfl, _, rfl, p, m, rfl, pu2, m0, by omega, fun d H3 d0 d1 sb3 pu3 => ⟨_, rfl, by omega, by omega, ?_⟩⟩
    obtain ⟨x2, y2, hp2, _⟩ := id pu2
    refine for_range (lo := 0) (n := d.toNat) (fun i σ H' => ∃ (ts : List Addr) (rows : List (List Str)) (v4 v5 v6 v7 : Option V), σ = [some (.ref p), some (.ref t), some (.int m), some (.ref F), v4, v5, v6, v7] ∧ Fnd H' F ts rows th ∧ rows.length ≤ i + 1 ∧ SameB p H H' ∧ Pu H' p)
      ⟨[a0], [r0], none, none, none, none, rfl, { f0 with at_ := f0.at_.but sb3 hp2 npF }, Nat.le_refl _, sb2.trans sb3, pu3⟩ ?_ ?_
    · rintro i σ H4 hi ⟨ts, rows, v4, v5, v6, v7, rfl, fd, lr, sb4, pu4⟩
      refine ⟨_, rfl, p, 3, rfl, pu4, by decide, by decide, fun g H5 g0 g1 sb5 pu5 => ?_⟩
      obtain ⟨x4, y4, hp4, _⟩ := id pu4
      have at5 := fd.at_.but sb5 hp4 npF
      have ne2 : ts ≠ [] := fun e => fd.ne (List.length_eq_zero_iff.mp (by rw [← fd.at_.2.1, e]; rfl))
      obtain ⟨ts0, tl, rfl⟩ : ∃ l a, ts = l ++ [a] := ⟨_, _, (List.dropLast_concat_getLast ne2).symm⟩
      obtain ⟨rl, hrl, etl⟩ := rowsAt_get at5 (t := tl) (List.mem_append_right _ (List.mem_singleton.mpr rfl))
      have e5 := at5.1
      rw [List.map_append] at e5
      have rol := ro.perm (fd.pm rl hrl)
      have rll := rol.le
      refine ⟨_, rfl, 1, rfl, F, _, _, _, rfl, rfl, lst_of e5, atI_last _ _, _, _, rfl, ?_⟩
      refine ⟨_, rfl, tl, _, rfl, etl.sqt, fun q oq nq dq => ?_⟩
      have s6 := Same.new nq (o := .frz oq (.tup ((rl.map V.str).reverse)))
      have eq6 : TupO (upd H5 q (.frz oq (.tup ((rl.map V.str).reverse)))) q ((rl.reverse).map V.str) := by
        rw [List.map_reverse]
        exact tupO_new dq
      have pu6 := pu5.same s6
      have at6 := at5.same s6
      have etl6 := etl.same s6
      have sb6 : SameB p H _ := (sb4.trans sb5).trans (SameB.of s6)
      have hT6 : SqT K _ t (th.map V.str) := pu.sqt sb6 hT
      generalize upd H5 q (.frz oq (.tup ((rl.map V.str).reverse))) = H6 at s6 eq6 pu6 at6 etl6 sb6 hT6 ⊢
      obtain ⟨x6, y6, hp6, _⟩ := id pu6
      refine ⟨_, rfl, _, _, rfl, rfl, _, rfl, ite2 (fun c1 => ⟨_, rfl, rfl, _, rfl, ite2 (fun c2 => ?b1) (fun c2 => ?b2)⟩) (fun c1 => ?b3)⟩
      case' b1 =>
        refine ⟨_, rfl, _, rfl, p, t, _, rfl, pu6, hT6, by rw [List.length_map]; omega, fun row u H7 pmu sb7 pu7 hu => ?_⟩
        obtain ⟨r, rfl, pr⟩ := perm_strs pmu
        have sb8 := sb6.trans sb7
        have at8 := at6.but sb7 hp6 npF
      case' b2 =>
        refine ⟨_, rfl, _, rfl, p, tl, rl, rfl, pu6, etl6.sqt, by omega, fun r u H7 pmr sb7 pu7 hu => ?_⟩
        have pr := pmr.trans (fd.pm rl hrl)
        have sb8 := sb6.trans sb7
        have at8 := at6.but sb7 hp6 npF
      case' b3 =>
        have pr := (List.reverse_perm rl).trans (fd.pm rl hrl)
        have hu := eq6
        have pu7 := pu6
        have sb8 := sb6
        have at8 := at6
        generalize H6 = H7 at hu pu7 sb8 at8 ⊢
        generalize q = u at hu ⊢
        generalize rl.reverse = r at pr hu ⊢
      all_goals
        have ror := ro.perm pr
        have okr : ∀ x ∈ rows, RowOk x := fun x hx => ro.perm (fd.pm x hx)
        refine ⟨_, rfl, _, rfl, _, _, .tup hu.sqt (dp_strs r), dp_rowsAt at8, shaped_strs ror.ok, shaped_rows okr, ?_⟩
        rw [eqv_rows]
        refine ⟨_, rfl, ite2 (fun c => ?_) (fun c => ?_)⟩
        · have nr : r ∉ rows := by simpa using c
          have e8 := at8.1
          refine ⟨_, rfl, .inl ⟨rfl, _, lst_of e8⟩, _, rfl, F, _, _, rfl, rfl, e8, lt_line (by rw [List.length_map, at8.2.1]; omega), ?_⟩
          have lr2 : (rows ++ [r]).length ≤ i + 1 + 1 := by
            rw [List.length_append]
            show rows.length + 1 ≤ _
            omega
          refine ⟨ts0 ++ [tl] ++ [u], rows ++ [r], _, _, _, _, rfl, ?_, lr2, ?_, pu7.put e8 ?_⟩
          · exact {
              at_ := at8.snoc hu
              nd := List.nodup_append.mpr ⟨fd.nd, List.nodup_cons.mpr ⟨List.not_mem_nil, List.nodup_nil⟩, fun a ha b hb e => nr (by rw [List.mem_singleton.mp hb] at e; rw [← e]; exact ha)⟩
              ne := fun e => by cases rows <;> cases e
              pm := fun x hx => by
                rcases List.mem_append.mp hx with m | m
                · exact fd.pm x m
                · rw [List.mem_singleton.mp m]
                  exact pr }
          · intro b o nb e
            rw [upd_ne (fun z => ?_)]
            · exact sb8 b o nb e
            · subst z
              have := sb1 _ _ nb e
              rw [nF] at this
              cases this
          · intro x y e
            injection e with e
            match ts0, e with
            | [], e => cases e
            | _ :: _, e => cases e
        · exact ⟨_, rows, _, _, _, _, rfl, { fd with at_ := at8 }, by omega, sb8, pu7⟩
    · rintro σ H4 ⟨ts, rows, v4, v5, v6, v7, rfl, fd, lr, sb4, pu4⟩
      have okr : ∀ x ∈ rows, RowOk x := fun x hx => ro.perm (fd.pm x hx)
      refine ⟨_, rfl, F, ts, rowAt (dn H4), rfl, lst_of fd.at_.1, fun u hu => ?_, fun ts' q pm srt nq => ?_⟩
      · obtain ⟨r, hr, e⟩ := rowsAt_get fd.at_ hu
        rw [rowAt_of (dn_of e)]
        exact ⟨e.sqt, (okr r hr).ne⟩
      · have er := rowsAt_map fd.at_
        have pm2 : (ts'.map (rowAt (dn H4))).Perm rows := by
          have := pm.map (rowAt (dn H4))
          rw [er] at this
          exact this
        have sq := Same.new nq (o := .lst (ts'.map V.ref))
        refine k q ts' (ts'.map (rowAt (dn H4))) _ (sb4.new nq) (pu4.same sq) ⟨upd_same, (List.length_map _).symm, fun j u r h1 h2 => ?_⟩ (rowsOk_of ro so pm2 fd.nd fd.ne fd.pm (by omega) srt) (by rw [pm2.length_eq]; omega)
        rw [List.getElem?_map, h1] at h2
        have e2 : rowAt (dn H4) u = r := Option.some.inj h2
        obtain ⟨x, _, e⟩ := rowsAt_get fd.at_ (pm.subset (List.mem_of_getElem? h1))
        rw [rowAt_of (dn_of e)] at e2
        subst e2
        exact e.same sq
end
end MH
namespace MH
open PySem PySem.Spec PyProof.Rows L2
theorem RkK.sameO {K : PySem.W.Frag} {C x t : Addr} {H H' : Hp} {row : List Str} (r : RkK K C H x t row) (s : SameO H H') : RkK K C H' x t row := by
  obtain ⟨dx, ts, th, h1, h2, h3, h4⟩ := r
  exact ⟨dx, ts, th, s _ _ (fun l q => by cases q) h1, (let ⟨o, e, d⟩ := h2; ⟨o, s _ _ (fun l q => by cases q) e, d⟩), s.sqt h3, h4⟩
end MH
namespace MH
open PySem PySem.Spec PyProof.Rows L2
/-! ### masks as sets of places -/
theorem bitNot_nat (a : Nat) : Builtin.bitNot (a : Int) = -(a : Int) - 1 := rfl
theorem bitNot_neg (a : Nat) : Builtin.bitNot (-(a : Int) - 1) = (a : Int) := by
  unfold Builtin.bitNot
  omega
theorem bitOr_nat (a b : Nat) : Builtin.bitOr (a : Int) (b : Int) = ((a ||| b : Nat) : Int) := by
  unfold Builtin.bitOr
  rw [bitNot_nat, bitNot_nat]
  unfold Builtin.bitAnd
  have h1 : decide ((0 : Int) ≤ -(a : Int) - 1) = false := decide_eq_false (by omega)
  have h2 : decide ((0 : Int) ≤ -(b : Int) - 1) = false := decide_eq_false (by omega)
  rw [h1, h2]
  simp only
  rw [bitNot_neg, bitNot_neg, Int.toNat_natCast, Int.toNat_natCast, bitNot_nat, bitNot_neg]
theorem bitAnd_nat (a b : Nat) : Builtin.bitAnd (a : Int) (b : Int) = ((a &&& b : Nat) : Int) := by
  unfold Builtin.bitAnd
  have h1 : decide ((0 : Int) ≤ (a : Int)) = true := decide_eq_true (by omega)
  have h2 : decide ((0 : Int) ≤ (b : Int)) = true := decide_eq_true (by omega)
  rw [h1, h2]
  simp only
  rw [Int.toNat_natCast, Int.toNat_natCast]
/-- the places of a lie in b -/
def subN (a b : Nat) : Prop := ∀ i, a.testBit i = true → b.testBit i = true
theorem and_sub {a b : Nat} : a &&& b = a ↔ subN a b := by
  constructor
  · intro h i hi
    rw [← h, Nat.testBit_and, Bool.and_eq_true] at hi
    exact hi.2
  · intro h
    refine Nat.eq_of_testBit_eq fun i => ?_
    rw [Nat.testBit_and]
    cases e : a.testBit i with
    | false => rfl
    | true => rw [h i e]; rfl
theorem subN_trans {a b c : Nat} (h : subN a b) (g : subN b c) : subN a c := fun i q => g i (h i q)
theorem bitAnd_sub {a b : Nat} : Builtin.bitAnd (a : Int) (b : Int) = (a : Int) ↔ subN a b := by
  rw [bitAnd_nat]
  exact ⟨fun h => and_sub.mp (by omega), fun h => by rw [and_sub.mpr h]⟩
theorem cov_nat {a : Nat} {ns : List Nat} : covI (a : Int) (ns.map fun (n : Nat) => ((n : Nat) : Int)) = true ↔ ∃ o ∈ ns, subN a o := by
  unfold covI
  rw [List.any_eq_true]
  constructor
  · rintro ⟨x, hx, h⟩
    obtain ⟨o, ho, rfl⟩ := List.mem_map.mp hx
    exact ⟨o, ho, bitAnd_sub.mp (of_decide_eq_true h)⟩
  · rintro ⟨o, ho, h⟩
    exact ⟨_, List.mem_map.mpr ⟨o, ho, rfl⟩, decide_eq_true (bitAnd_sub.mpr h)⟩
/-- the greatest ones cover what all cover -/
theorem great_cov {a : Nat} : ∀ {r f : List Nat}, (∃ g : List Nat, greatF (f.map fun (n : Nat) => ((n : Nat) : Int)) (r.map fun (n : Nat) => ((n : Nat) : Int)) = g.map (fun (n : Nat) => ((n : Nat) : Int)) ∧ (∀ o ∈ g, o ∈ f ∨ o ∈ r) ∧ ((∃ o ∈ g, subN a o) ↔ ((∃ o ∈ f, subN a o) ∨ ∃ o ∈ r, subN a o)))
  | [], f => ⟨f, rfl, fun o h => .inl h, ⟨fun h => .inl h, fun h => h.elim id fun ⟨_, h, _⟩ => nomatch h⟩⟩
  | m :: r, f => by
    rw [List.map_cons, greatF]
    by_cases c : covI (m : Int) (f.map fun (n : Nat) => ((n : Nat) : Int)) = true
    · rw [if_pos c]
      obtain ⟨g, e, h1, h2⟩ := great_cov (a := a) (r := r) (f := f)
      refine ⟨g, e, fun o h => (h1 o h).imp id fun h => List.mem_cons_of_mem _ h, h2.trans ⟨fun h => h.imp id fun ⟨o, ho, q⟩ => ⟨o, List.mem_cons_of_mem _ ho, q⟩, fun h => ?_⟩⟩
      rcases h with h | ⟨o, ho, q⟩
      · exact .inl h
      · rcases List.mem_cons.mp ho with rfl | ho
        · obtain ⟨o', ho', q'⟩ := cov_nat.mp c
          exact .inl ⟨o', ho', subN_trans q q'⟩
        · exact .inr ⟨o, ho, q⟩
    · rw [if_neg c]
      obtain ⟨g, e, h1, h2⟩ := great_cov (a := a) (r := r) (f := f ++ [m])
      rw [List.map_append] at e
      refine ⟨g, e, fun o h => ?_, h2.trans ⟨fun h => ?_, fun h => ?_⟩⟩
      · rcases h1 o h with h | h
        · rcases List.mem_append.mp h with h | h
          · exact .inl h
          · exact .inr (by rw [List.mem_singleton.mp h]; exact List.mem_cons_self)
        · exact .inr (List.mem_cons_of_mem _ h)
      · rcases h with ⟨o, ho, q⟩ | ⟨o, ho, q⟩
        · rcases List.mem_append.mp ho with ho | ho
          · exact .inl ⟨o, ho, q⟩
          · rw [List.mem_singleton.mp ho] at q
            exact .inr ⟨m, List.mem_cons_self, q⟩
        · exact .inr ⟨o, List.mem_cons_of_mem _ ho, q⟩
      · rcases h with ⟨o, ho, q⟩ | ⟨o, ho, q⟩
        · exact .inl ⟨o, List.mem_append_left _ ho, q⟩
        · rcases List.mem_cons.mp ho with rfl | ho
          · exact .inl ⟨o, List.mem_append_right _ (List.mem_singleton.mpr rfl), q⟩
          · exact .inr ⟨o, ho, q⟩
theorem nats_of_perm {ms : List Int} {ns : List Nat} (h : ms.Perm (ns.map fun (n : Nat) => ((n : Nat) : Int))) : ∃ r : List Nat, ms = r.map (fun (n : Nat) => ((n : Nat) : Int)) ∧ r.Perm ns := by
  refine ⟨ms.map Int.toNat, ?_, ?_⟩
  · rw [List.map_map]
    refine (List.map_id _).symm.trans (List.map_congr_left fun x hx => ?_)
    obtain ⟨n, _, rfl⟩ := List.mem_map.mp (h.subset hx)
    rfl
  · have q := h.map Int.toNat
    rw [List.map_map] at q
    refine q.trans (List.Perm.of_eq ?_)
    refine (List.map_congr_left (g := id) fun x _ => ?_).trans (List.map_id _)
    rfl
theorem greatI_cov {a : Nat} {ns : List Nat} : (∃ g : List Nat, greatI (ns.map fun (n : Nat) => ((n : Nat) : Int)) = g.map (fun (n : Nat) => ((n : Nat) : Int)) ∧ (∀ o ∈ g, o ∈ ns) ∧ ((∃ o ∈ g, subN a o) ↔ ∃ o ∈ ns, subN a o)) := by
  obtain ⟨r, er, pr⟩ := nats_of_perm (List.mergeSort_perm (ns.map fun (n : Nat) => ((n : Nat) : Int)) fun a b => decide (b ≤ a))
  obtain ⟨g, e, h1, h2⟩ := great_cov (a := a) (r := r) (f := [])
  refine ⟨g, ?_, fun o h => ?_, ?_⟩
  · unfold greatI downI
    rw [er]
    exact e
  · rcases h1 o h with h | h
    · cases h
    · exact pr.subset h
  · rw [h2]
    constructor
    · rintro (⟨o, ho, _⟩ | ⟨o, ho, q⟩)
      · cases ho
      · exact ⟨o, pr.subset ho, q⟩
    · rintro ⟨o, ho, q⟩
      exact .inr ⟨o, pr.symm.subset ho, q⟩
/-- the mask as a natural number -/
def bitsN (th names : List Str) : Nat := names.foldl (fun m z => m ||| 2 ^ (th.idxOf z)) 0
theorem fold_maskN (th : List Str) : ∀ (names : List Str) (m : Nat), names.foldl (fun m z => Builtin.bitOr m (1 * 2 ^ (th.idxOf z))) (m : Int) = ((names.foldl (fun m z => m ||| 2 ^ (th.idxOf z)) m : Nat) : Int)
  | [], m => rfl
  | z :: r, m => by
    rw [List.foldl_cons, List.foldl_cons]
    have e : Builtin.bitOr (m : Int) (1 * 2 ^ (th.idxOf z)) = ((m ||| 2 ^ (th.idxOf z) : Nat) : Int) := by
      rw [Int.one_mul, show (2 : Int) ^ (th.idxOf z) = ((2 ^ (th.idxOf z) : Nat) : Int) from (Int.natCast_pow 2 _).symm]
      exact bitOr_nat _ _
    rw [e]
    exact fold_maskN th r _
theorem maskI_nat (th names : List Str) : maskI th names = ((bitsN th names : Nat) : Int) := fold_maskN th names 0
theorem fold_bit (th : List Str) (i : Nat) : ∀ (names : List Str) (m : Nat), (names.foldl (fun m z => m ||| 2 ^ (th.idxOf z)) m).testBit i = (m.testBit i || names.any fun z => decide (th.idxOf z = i))
  | [], m => by simp
  | z :: r, m => by
    rw [List.foldl_cons, fold_bit th i r, Nat.testBit_or, Nat.testBit_two_pow, List.any_cons, Bool.or_assoc]
theorem bit_at (th names : List Str) (i : Nat) : (bitsN th names).testBit i = names.any fun z => decide (th.idxOf z = i) := by
  unfold bitsN
  rw [fold_bit, Nat.zero_testBit, Bool.false_or]
theorem idx_inj {th : List Str} {a b : Str} (ha : a ∈ th) (hb : b ∈ th) (e : th.idxOf a = th.idxOf b) : a = b := by
  have h1 := List.getElem_idxOf (List.idxOf_lt_length_of_mem ha)
  have h2 := List.getElem_idxOf (List.idxOf_lt_length_of_mem hb)
  rw [← h1, ← h2]
  congr 1
theorem sub_names {th as bs : List Str} (ha : ∀ z ∈ as, z ∈ th) (hb : ∀ z ∈ bs, z ∈ th) : subN (bitsN th as) (bitsN th bs) ↔ ∀ z ∈ as, z ∈ bs := by
  constructor
  · intro h z hz
    have q := h (th.idxOf z) (by rw [bit_at, List.any_eq_true]; exact ⟨z, hz, decide_eq_true rfl⟩)
    rw [bit_at, List.any_eq_true] at q
    obtain ⟨y, hy, e⟩ := q
    rw [← idx_inj (hb y hy) (ha z hz) (of_decide_eq_true e)]
    exact hy
  · intro h i q
    rw [bit_at, List.any_eq_true] at q ⊢
    obtain ⟨z, hz, e⟩ := q
    exact ⟨z, h z hz, e⟩
theorem bits_eq {th as bs : List Str} (h : ∀ z, z ∈ as ↔ z ∈ bs) : bitsN th as = bitsN th bs := by
  refine Nat.eq_of_testBit_eq fun i => ?_
  rw [bit_at, bit_at, Bool.eq_iff_iff, List.any_eq_true, List.any_eq_true]
  exact ⟨fun ⟨z, hz, e⟩ => ⟨z, (h z).mp hz, e⟩, fun ⟨z, hz, e⟩ => ⟨z, (h z).mpr hz, e⟩⟩
end MH
namespace MH
open PySem PySem.Spec PyProof.Rows L2
theorem below_at {th row : List Str} {i : Nat} {z : Str} (h : th[i]? = some z) : (belowI th row).getD i 0 = ((bitsN th (row.drop (row.idxOf z + 1)) : Nat) : Int) := by
  unfold belowI
  rw [List.getD_eq_getElem?_getD, List.getElem?_map, h]
  exact maskI_nat _ _
end MH
namespace MH
open PySem PySem.Spec PyProof.Rows L2
/-! ### masks held against tuples of masks; menus; made rankings and houses (no House.__call__) -/
structure MenuOk (th menu : List Str) : Prop where
  ne : menu ≠ []
  up : menu.Pairwise ltS
  sub : ∀ y ∈ menu, y ∈ th
theorem MenuOk.nd {th menu : List Str} (h : MenuOk th menu) : menu.Nodup := h.up.imp (S := fun a b => a ≠ b) fun {a b} q (e : a = b) => ltS_irrefl a (by subst e; exact q)
theorem MenuOk.len {th menu : List Str} (h : MenuOk th menu) : menu.length ≤ th.length := List.Nodup.length_le_of_subset h.nd h.sub
theorem RowsOk.thOk {th : List Str} {rows : List (List Str)} (h : RowsOk th rows) : RowOk th := by
  obtain ⟨r, hr⟩ := List.exists_mem_of_ne_nil _ h.ne
  exact (h.ok r hr).1.perm (h.ok r hr).2
theorem RowsOk.up {th : List Str} {rows : List (List Str)} (h : RowsOk th rows) : th.Pairwise ltS := sorted_lt h.thOk.nd h.so
theorem HsK.rowsOk {K : PySem.W.Frag} {C C2 x : Addr} {H : Hp} {th : List Str} {rows : List (List Str)} (h : HsK K C C2 H x th rows) : RowsOk th rows := ⟨h.ok.1, h.ok.2.1, h.ok.2.2.1, h.ok.2.2.2.1, h.ok.2.2.2.2⟩
/-- a ranking is made -/
theorem rank_made {K : PySem.W.Frag} {C : Addr} {H : Hp} {y dy t : Addr} {r : List Str} {Z : Hp → Prop} (ht : TupO H t (r.map V.str)) (ro : RowOk r) (ny : H y = none) (ndy : H dy = none) (hne : dy ≠ y)
    (k : ∀ H', Same H H' → RkK K C H' y t r → Z H') : spInitK K C [.ref y, .ref t] (upd (upd H dy (.own y)) y (.ins C dy [])) (fun v H2 => v = .non ∧ Z H2) E0 := by
  refine ⟨y, dy, t, r, rfl, upd_same, ?_, ro, fun H6 s6 rk6 => ⟨rfl, k H6 (fun b o h => ?_) rk6⟩⟩
  · refine (ht.upN ndy).upN ?_
    rw [upd_ne hne.symm]
    exact ny
  · have nb : b ≠ y := ne_of_none h ny
    refine s6 b o nb ?_
    rw [upd_ne nb, upd_ne (ne_of_none h ndy)]
    exact h
/-- a house is made -/
theorem house_made {K : PySem.W.Frag} {C C2 : Addr} {H : Hp} {x dx : Addr} {th : List Str} {rows : List (List Str)} {rs : List Rk3} {Z : Hp → Prop} (ro : RowsOk th rows) (rk : Rks K C H th rs) (hne : rs ≠ []) (hl : rs.length ≤ 24)
    (m : ∀ r, r ∈ rs.map (·.2.2) ↔ r ∈ rows) (nx : H x = none) (ndx : H dx = none) (hd : dx ≠ x) (k : ∀ H', Same H H' → HsK K C C2 H' x th rows → Z H') :
    ∀ q, (upd (upd H dx (.own x)) x (.ins C2 dx [])) q = none → spHInit K C C2 [.ref x, .ref q] (upd (upd (upd H dx (.own x)) x (.ins C2 dx [])) q (.tup (rs.map fun r => V.ref r.1))) (fun v H2 => v = .non ∧ Z H2) E0 := by
  intro q nq
  have s3 : Same H (upd (upd (upd H dx (.own x)) x (.ins C2 dx [])) q (.tup (rs.map fun r => V.ref r.1))) := by
    refine Same.new' (Same.new' (Same.new ndx) ?_) nq
    rw [upd_ne hd.symm]
    exact nx
  refine ⟨x, dx, q, th, rs, rfl, ?_, tup_of upd_same, hne, hl, fun r hr => ⟨(rk r hr).1.same s3, (rk r hr).2⟩, ro.so, fun rows' H5 s5 m5 hs => ⟨rfl, ?_⟩⟩
  · have nxq : x ≠ q := fun z => by
      rw [← z, upd_same] at nq
      cases nq
    rw [upd_ne nxq]
    exact upd_same
  · have m2 : ∀ r, r ∈ rows' ↔ r ∈ rows := fun r => by rw [m5 r, m r]
    obtain rfl := rows_one ro.pw hs.ok.2.2.2.2 m2
    refine k H5 (fun b o h => ?_) hs
    have nb : b ≠ x := ne_of_none h nx
    exact s5 b o nb (s3 b o h)
end MH
namespace MH
open PySem PySem.Spec PyProof.Rows L2
def spHouseL (K : PySem.W.Frag) (C C2 : Addr) : Sp := fun vs H Q _ => ∃ (l : Addr) (ts : List Addr) (th : List Str) (rows : List (List Str)), vs = [.ref l] ∧ RowsAt H l ts rows ∧ RowsOk th rows ∧ ∀ x H', Same H H' → HsK K C C2 H' x th rows → Q (.ref x) H'
theorem rowsAt_at {H : Hp} {l : Addr} {ts : List Addr} {rows : List (List Str)} (h : RowsAt H l ts rows) {i : Nat} {t : Addr} (ht : ts[i]? = some t) : ∃ r, rows[i]? = some r ∧ TupO H t (r.map V.str) := by
  have hi : i < rows.length := by
    rw [← h.2.1]
    exact (List.getElem?_eq_some_iff.mp ht).1
  exact ⟨_, List.getElem?_eq_getElem hi, h.2.2 i t _ ht (List.getElem?_eq_getElem hi)⟩
theorem rowsAt_nth {H : Hp} {l : Addr} {ts : List Addr} {rows : List (List Str)} (h : RowsAt H l ts rows) {i : Nat} (hi : i < rows.length) : ∃ t r, ts[i]? = some t ∧ rows[i]? = some r ∧ (ts.map V.ref)[i]? = some (V.ref t) ∧ TupO H t (r.map V.str) := by
  have ht : ts[i]? = some (ts[i]'(by rw [h.2.1]; exact hi)) := List.getElem?_eq_getElem _
  obtain ⟨r, hr, e⟩ := rowsAt_at h ht
  exact ⟨_, r, ht, hr, by rw [List.getElem?_map, ht]; rfl, e⟩
section
variable {P : Program} {w : World} {K : PySem.W.Frag} {mg : Str → Option Value} {base : Heap}
theorem ok_l_house (T : Tx K mg) : FnOk P w K mg base CX0 9 T.a_l_house T.fd_l_house ["_law_rows_here"] (spHouseL K T.C T.C2) := by
  refine T.F_l_house.ok sc_l_house (fun vs H Q E h => ?_) (fun cdv A outer s H vs Q E hr h => ?_)
  · obtain ⟨l, ts, th, rows, rfl, _⟩ := h
    rfl
  · obtain ⟨l, ts, th, rows, rfl, ra, ro, k⟩ := h
    refine ⟨_, (pss_cons (ps_if (pt_cmpR op_eq (pe_callB call_len_seq (by rfl) T.n_len (by decide +kernel) (pa_cons (pv 0) pa_nil)) pe_int (nomark _))
        (pss_one (ps_ret (StX.pe_makeR T.mkc2 (okR_HouseD_initD T) (hr.mono (by decide)) rfl T.g_House pass0 (pa_cons (pe_make T.mkc (ok_RankingD_initD T) (hr.mono (by decide)) rfl T.g_Ranking T.b_RankingD_initD .nil pass0 (pa_cons (pe_ix ix_list (pv 0) pe_int (fun _ _ => rfl)) pa_nil)) pa_nil))))
        pss_nil)
      (pss_cons (ps_if (pt_cmpR op_eq (pe_callB call_len_seq (by rfl) T.n_len (by decide +kernel) (pa_cons (pv 0) pa_nil)) pe_int (nomark _))
        (pss_one (ps_ret (StX.pe_makeR T.mkc2 (okR_HouseD_initD T) (hr.mono (by decide)) rfl T.g_House pass0 (pa_cons (pe_make T.mkc (ok_RankingD_initD T) (hr.mono (by decide)) rfl T.g_Ranking T.b_RankingD_initD .nil pass0 (pa_cons (pe_ix ix_list (pv 0) pe_int (fun _ _ => rfl)) pa_nil)) (pa_cons (pe_make T.mkc (ok_RankingD_initD T) (hr.mono (by decide)) rfl T.g_Ranking T.b_RankingD_initD .nil pass0 (pa_cons (pe_ix ix_list (pv 0) pe_int (fun _ _ => rfl)) pa_nil)) pa_nil)))))
        pss_nil)
      (pss_one (ps_ret (ClX.pe_cmeth (pe_glob (v := .ref T.C2) rfl T.g_House rfl) T.crd2 T.cm_House_read (FnOk.toR (ok_House_read T) T.b_House_read) (hr.mono (by decide)) pass0 (pa_cons (pe_join pe_str (pe_lc (own := [("_law_row", 1)]) (g := gName 1) (tt := tYes) rfl sc_l_house.nd (pi_list (pv 0)) (blkOk_by (own := [("_law_row", 1)]) (N := names_l_house) (sc := defScope st_l_house) (by decide +kernel)) (fun _ _ _ _ _ => pg_name (i := 1) sc_l_house.nd rfl (Or.inl rfl)) (fun _ _ _ _ _ => pts_nil) (fun _ _ _ _ _ => (pe_joinC (K := K) rfl pe_str (pv 1))))) pa_nil)))))), ?_⟩
    have rok : ∀ r ∈ rows, RowOk r := fun r hr => (ro.ok r hr).1
    have le24 := ro.le
    have lt := ra.2.1
    have lm : (ts.map V.ref).length = rows.length := by
      rw [List.length_map]
      exact lt
    have h0 : 0 < rows.length := List.length_pos_iff.mpr ro.ne
    have one : ∀ {rs : List Rk3} {H1 : Hp}, Same H H1 → Rks K T.C H1 th rs → rs.length ≤ 5 → rs ≠ [] → (∀ r, r ∈ rs.map (·.2.2) ↔ r ∈ rows) → ∀ x dx, H1 x = none → H1 dx = none → dx ≠ x →
        ∃ v rest, V.ref x :: rs.map (fun r => V.ref r.1) = v :: rest ∧ rest.length ≤ 60 ∧ ∀ q, (upd (upd H1 dx (.own x)) x (.ins T.C2 dx [])) q = none → spHInit K T.C T.C2 [v, .ref q] (upd (upd (upd H1 dx (.own x)) x (.ins T.C2 dx [])) q (.tup rest)) (fun v H2 => v = .non ∧ Q (.ref x) H2) E0 := fun {rs H1} s1 rk hl hne m x dx nx ndx hd =>
      ⟨_, _, rfl, by rw [List.length_map]; omega, house_made ro rk hne (by omega) m nx ndx hd fun H' s' hs => k x H' (s1.trans s') hs⟩
    refine ⟨_, rfl, l, _, rfl, .inl (lst_of ra.1), rfl, _, rfl, ite2 (fun c1 => ?_) (fun c1 => ?_)⟩
    · have c1 : V.int (((ts.map V.ref).length : Nat) : Int) = V.int 1 := of_decide_eq_true c1
      rw [lm] at c1
      injection c1 with c1
      have c1 : rows.length = 1 := by omega
      obtain ⟨t0, r0, ht0, hr0, g0, e0⟩ := rowsAt_nth ra h0
      have m0 := List.mem_of_getElem? hr0
      refine ⟨_, rfl, l, _, 0, _, rfl, rfl, lst_of ra.1, atI_nat (j := 0) g0, fun y dy ny ndy hne => rank_made e0 (rok r0 m0) ny ndy hne fun H1 s1 rk1 => one (rs := [(y, t0, r0)]) s1 (fun r hr => ?_) (by simp) (by simp) (fun r => ?_)⟩
      · rw [List.mem_singleton.mp hr]
        exact ⟨rk1, (ro.ok r0 m0).2⟩
      · match rows, c1, hr0 with
        | [a], _, hr0 =>
          obtain rfl : a = r0 := Option.some.inj hr0
          exact Iff.rfl
    · have c1 : ¬ rows.length = 1 := fun e => c1 (decide_eq_true (by rw [lm, e]; rfl))
      refine ⟨_, rfl, l, _, rfl, .inl (lst_of ra.1), rfl, _, rfl, ite2 (fun c2 => ?_) (fun c2 => ?_)⟩
      · have c2 : V.int (((ts.map V.ref).length : Nat) : Int) = V.int 2 := of_decide_eq_true c2
        rw [lm] at c2
        injection c2 with c2
        have c2 : rows.length = 2 := by omega
        obtain ⟨t0, r0, ht0, hr0, g0, e0⟩ := rowsAt_nth ra h0
        obtain ⟨t1, r1, ht1, hr1, g1, e1⟩ := rowsAt_nth ra (show 1 < rows.length by omega)
        have m0 := List.mem_of_getElem? hr0
        have m1 := List.mem_of_getElem? hr1
        refine ⟨_, rfl, l, _, 1, _, rfl, rfl, lst_of ra.1, atI_nat (j := 1) g1, fun y dy ny ndy hne => rank_made e1 (rok r1 m1) ny ndy hne fun H1 s1 rk1 => ?_⟩
        refine ⟨_, rfl, l, _, 0, _, rfl, rfl, lst_of (s1 _ _ ra.1), atI_nat (j := 0) g0, fun y2 dy2 ny2 ndy2 hne2 => rank_made (e0.same s1) (rok r0 m0) ny2 ndy2 hne2 fun H2 s2 rk2 => one (rs := [(y, t1, r1), (y2, t0, r0)]) (s1.trans s2) (fun r hr => ?_) (by simp) (by simp) (fun r => ?_)⟩
        · rcases List.mem_cons.mp hr with e | hr
          · rw [e]
            exact ⟨rk1.same s2, (ro.ok r1 m1).2⟩
          · rw [List.mem_singleton.mp hr]
            exact ⟨rk2, (ro.ok r0 m0).2⟩
        · match rows, c2, hr0, hr1 with
          | [a, b], _, hr0, hr1 =>
            obtain rfl : a = r0 := Option.some.inj hr0
            obtain rfl : b = r1 := Option.some.inj hr1
            simp only [List.map_cons, List.map_nil, List.mem_cons, List.not_mem_nil, or_false]
            exact Or.comm
      · refine ⟨rfl, ⟨_, rfl⟩, _, rfl, l, rfl, ⟨_, lst_of ra.1⟩, fun D nD => lcv walk_list (rows.map (Txt.join " ")) V.str (by rw [List.length_map, List.length_map]; exact lt.symm) nD (by rw [List.length_map, lt]; omega) (fun H' s => lst_of (s _ _ ra.1)) (fun _ _ _ _ _ y => yat_same y) (fun i u x H1 H2 hu s1 y Z hZ => ?_) (fun H' s e => ?_)⟩
        · obtain ⟨rfl, hx⟩ := y
          obtain ⟨t, ht, rfl⟩ := ref_at hx
          rw [List.getElem?_map] at hu
          obtain ⟨r, hr1, rfl⟩ := Option.map_eq_some_iff.mp hu
          have rk := rok r (List.mem_of_getElem? hr1)
          exact ⟨rfl, ⟨_, rfl⟩, _, rfl, _, t, _, rfl, rfl, .inr (((ra.2.2 i t r ht hr1).same s1).sqt), join_le rk, hZ _ (Same.refl _)⟩
        · exact ⟨_, D, _, rfl, rfl, .inl (lst_of e), house_le rok ro.le, th, rows, rfl, ro, fun x H2 s2 hs => k x H2 (s.trans s2) hs⟩
end
end MH
namespace MH
open PySem PySem.Spec PyProof.Rows L2
/-! ### within another house; joined houses -/
def belowS (row : List Str) (z : Str) : List Str := row.drop (row.idxOf z + 1)
def nsOf (th : List Str) (rows : List (List Str)) (z : Str) : List Nat := rows.map fun row => bitsN th (belowS row z)
theorem crest_nat {th : List Str} {i : Nat} {z : Str} (rows : List (List Str)) (h : th[i]? = some z) : crestI th rows i = greatI ((nsOf th rows z).map fun (n : Nat) => ((n : Nat) : Int)) := by
  unfold crestI nsOf
  rw [List.map_map]
  exact congrArg greatI (List.map_congr_left fun row _ => below_at h)
theorem below_in {th r : List Str} {z : Str} (pm : th.Perm r) : ∀ y ∈ belowS r z, y ∈ th := fun y hy => pm.symm.subset (List.mem_of_mem_drop hy)
end MH
namespace MH
open PySem PySem.Spec PyProof.Rows L2
/-! ### below a thing; whether a ranking may join, by own play -/
def spBelowL (K : PySem.W.Frag) : Sp := fun vs H Q _ => ∃ (t : Addr) (row : List Str) (z : Str), vs = [.ref t, .str z] ∧ TupO H t (row.map V.str) ∧ z ∈ row ∧ row.length ≤ 60 ∧ ∀ (b : Addr) (bs : List Str) H', Same H H' → TupO H' b (bs.map V.str) → bs.Perm (belowS row z) → sortedS bs = true → Q (.ref b) H'
section
variable {P : Program} {w : World} {K : PySem.W.Frag} {mg : Str → Option Value} {base : Heap}
theorem ok_l_below (T : Tx K mg) : FnOk P w K mg base CX0 9 T.a_l_below T.fd_l_below ["_law_row", "_law_thing"] (spBelowL K) := by
  refine T.F_l_below.ok sc_l_below (fun vs H Q E h => ?_) (fun cdv A outer s H vs Q E hr h => ?_)
  · obtain ⟨t, row, z, rfl, _⟩ := h
    rfl
  · obtain ⟨t, row, z, rfl, hT, hz, hl, k⟩ := h
    refine ⟨_, (pss_one (ps_ret (pe_callTy call_tupF (by rfl) T.n_tuple (by decide +kernel) (pa_cons (pe_callB cr_sortedU (by rfl) T.n_sorted (by decide +kernel) (pa_cons (pe_slice sl_tupA (pv 0) (po_some (pe_op op_add (pe_tupM PySem.F.slot_tuple_index PySem.F.type_tuple_index mt_tup_index (pv 0) (pa_cons (pv 1) pa_nil)) pe_int)) po_none) pa_nil)) pa_nil)))), ?_⟩
    have hi := List.idxOf_lt_length_of_mem hz
    have fin : ∀ (q : Addr) (H1 : Hp), Same H H1 → SqT K H1 q ((belowS row z).map V.str) → rSortedU K [.ref q] H1 fun x H2 => rTupF K [x] H2 Q := fun q H1 s1 hq => by
      refine ⟨q, belowS row z, rfl, hq, ?_, fun ys p pm so np => ⟨p, _, rfl, .inl ⟨lst_of upd_same, fun u ou nu du => ?_⟩⟩⟩
      · unfold belowS
        rw [List.length_drop]
        omega
      · exact k u ys _ (s1.trans ((Same.new np).new' nu)) (tupO_new du) pm so
    have e1 : ((row.idxOf z : Nat) : Int) + 1 = ((row.idxOf z + 1 : Nat) : Int) := rfl
    have lm : (row.map V.str).length = row.length := List.length_map _
    refine ⟨_, rfl, _, rfl, ⟨t, _, rfl, hT⟩, _, rfl, t, row, z, row.idxOf z, rfl, rfl, hT.sqt, ?_, fun m hm e => ?_, _, _, rfl, rfl, _, rfl, t, _, rfl, hT.sqt, fun hw => ?_, fun hw q nq => ?_⟩
    · rw [List.getElem?_eq_getElem hi, List.getElem_idxOf]
    · have hm2 : m < row.length := by omega
      rw [List.getElem?_eq_getElem hm2] at e
      have q := List.not_of_lt_findIdx (p := fun y => y == z) (xs := row) (i := m) hm
      rw [Option.some.inj e] at q
      simp at q
    · rw [e1, HT.sIx_nat, HT.sIx_none, lm] at hw
      omega
    · refine fin q _ (Same.new nq) (tup_of ?_)
      rw [upd_same, e1, cut_from]
      unfold belowS
      rw [List.map_drop]
end
end MH
namespace MH
open PySem PySem.Spec PyProof.Rows L2
/-! ### parts, joined menus, drawn menus -/
def partB (a b : List Str) : Bool := decide (a.filter (fun z => !decide (z ∈ b)) = [])
theorem part_true {a b : List Str} : partB a b = true ↔ ∀ z ∈ a, z ∈ b := by
  unfold partB
  rw [decide_eq_true_eq, List.filter_eq_nil_iff]
  simp
def spPart (K : PySem.W.Frag) : Sp := fun vs H Q _ => ∃ (a b : Addr) (xs ys : List Str), vs = [.ref a, .ref b] ∧ SqT K H a (xs.map V.str) ∧ SqT K H b (ys.map V.str) ∧ (∀ z ∈ xs, nameOk z = true) ∧ xs.length ≤ 1000 ∧ ∀ H', Same H H' → Q (.bl (partB xs ys)) H'
theorem eqL_of {K : PySem.W.Frag} {H : Hp} {a b : Addr} {xs ys : List Str} {Q : VK} (ha : SqL K H a (xs.map V.str)) (hb : SqL K H b (ys.map V.str)) (hx : ∀ z ∈ xs, nameOk z = true) (hy : ∀ z ∈ ys, nameOk z = true) (q : Q (.bl (decide (xs = ys))) H) : rEqD K (.ref a) (.ref b) H Q := by
  refine ⟨_, _, .lst ha (dp_strs xs), .lst hb (dp_strs ys), shaped_strsL hx, shaped_strsL hy, ?_⟩
  rw [eqv_strsL]
  exact q
section
variable {P : Program} {w : World} {K : PySem.W.Frag} {mg : Str → Option Value} {base : Heap}
theorem ok_l_part (T : Tx K mg) : FnOk P w K mg base CX0 9 T.a_l_part T.fd_l_part ["_law_one", "_law_other"] (spPart K) := by
  refine T.F_l_part.ok sc_l_part (fun vs H Q E h => ?_) (fun cdv A outer s H vs Q E hr h => ?_)
  · obtain ⟨a, b, xs, ys, rfl, _⟩ := h
    rfl
  · obtain ⟨a, b, xs, ys, rfl, ha, hb, ok, hz, k⟩ := h
    refine ⟨_, (pss_one (ps_ret (pe_cmpR (op_eqD hr.units) (pe_lc (own := [("_law_thing", 2)]) (g := gName 2) (tt := tTest (tOp (rIn K true) (tVar 2) (tVar 1))) rfl sc_l_part.nd (pi_tup (pv 0)) (blkOk_by (own := [("_law_thing", 2)]) (N := names_l_part) (sc := defScope st_l_part) (by decide +kernel)) (fun _ _ _ _ _ => pg_name (i := 2) sc_l_part.nd rfl (Or.inl rfl)) (fun _ _ _ _ _ => pts_one (pt_cmpR op_notIn_seq (pv 2) (pv 1) (by rfl))) (fun _ _ _ _ _ => (pv 2))) (pe_lst pa_nil) (nomark _)))), ?_⟩
    refine ⟨_, rfl, a, rfl, ⟨_, ha⟩, fun D nD => lcf walk_tup xs V.str (fun z => !decide (z ∈ ys)) (List.length_map _).symm nD (by rw [List.length_map]; omega) (fun H' s => s.sqt ha) (fun _ _ _ _ _ y => yat_same y) (fun i u x H1 H2 hu s1 y Z N hZ hN => ?_) (fun H' s' e' => ?_)⟩
    · obtain ⟨rfl, hx⟩ := y
      obtain ⟨z, hz', rfl⟩ := str_at hx
      obtain rfl : z = u := Option.some.inj (hz'.symm.trans hu)
      refine ⟨rfl, _, rfl, _, rfl, b, _, rfl, .inr (s1.sqt hb), rfl, flat_strs _, _, rfl, ite2 (fun c => ?_) (fun c => ?_)⟩
      · have c : (!inV (.str z) (ys.map V.str)) = true := c
        rw [inV_strs] at c
        exact ⟨_, rfl, hZ c _ (Same.refl _)⟩
      · have c : ¬ (!inV (.str z) (ys.map V.str)) = true := c
        rw [inV_strs] at c
        exact hN (by simpa using c) _ (Same.refl _)
    · refine ⟨Nat.zero_le _, fun e ne => eqL_of (ys := []) ((Same.sql (Same.new ne) (lst_of e'))) (lst_of upd_same) (fun z hz => ok z (List.mem_filter.mp hz).1) (fun _ h => nomatch h) (k _ (s'.new' ne))⟩
end
end MH
namespace MH
open PySem PySem.Spec PyProof.Rows L2
theorem Rks.sameO {K : PySem.W.Frag} {C : Addr} {H H' : Hp} {th : List Str} {rs : List Rk3} (h : Rks K C H th rs) (s : SameO H H') : Rks K C H' th rs := fun r hr => ⟨(h r hr).1.sameO s, (h r hr).2⟩
theorem HsK.sameO {K : PySem.W.Frag} {C C2 x : Addr} {H H' : Hp} {th : List Str} {rows : List (List Str)} (h : HsK K C C2 H x th rows) (s : SameO H H') : HsK K C C2 H' x th rows := by
  obtain ⟨dx, rt, ts, ct, rs, cs, h1, h2, h3, h4, h5, h6, h7, h8, h9⟩ := h
  exact ⟨dx, rt, ts, ct, rs, cs, s _ _ (fun l q => by cases q) h1, s.sqt h2, Rks.sameO h3 s, h4, s.sqt h5, s.sqt h6, h7, fun i c hc => s.sqt (h8 i c hc), h9⟩
theorem _root_.MH.TupO.sameO {H H' : Hp} {a : Addr} {xs : List V} (h : TupO H a xs) (s : SameO H H') : TupO H' a xs := let ⟨o, e, d⟩ := h; ⟨o, s _ _ (fun l q => by cases q) e, d⟩
theorem range_get {α : Type} (l : List α) (d : α) : (List.range l.length).map (fun i => l.getD i d) = l := by
  refine List.ext_getElem? fun i => ?_
  rw [List.getElem?_map]
  by_cases h : i < l.length
  · rw [List.getElem?_range h, List.getElem?_eq_getElem h, Option.map_some, List.getD_eq_getElem?_getD, List.getElem?_eq_getElem h]
    rfl
  · rw [List.getElem?_eq_none (by rw [List.length_range]; omega), List.getElem?_eq_none (by omega)]
    rfl
theorem pick_sub {α : Type} (l : List α) (d : α) {is : List Nat} (h : is.Sublist (List.range l.length)) : (is.map fun i => l.getD i d).Sublist l := by
  have q := h.map fun i => l.getD i d
  rw [range_get] at q
  exact q
theorem rows_pick {H H' : Hp} {l D : Addr} {ts : List Addr} {rows : List (List Str)} (ra : RowsAt H l ts rows) (s : ∀ a xs, TupO H a xs → TupO H' a xs) (is : List Nat) (hi : ∀ i ∈ is, i < ts.length) (e : H' D = some (.lst (is.map fun i => V.ref (ts.getD i 0)))) :
    RowsAt H' D (is.map fun i => ts.getD i 0) (is.map fun i => rows.getD i []) := by
  refine ⟨by rw [e, List.map_map]; rfl, by rw [List.length_map, List.length_map], fun j t r h1 h2 => ?_⟩
  rw [List.getElem?_map] at h1 h2
  obtain ⟨i, e1, e2⟩ := Option.map_eq_some_iff.mp h1
  rw [e1] at h2
  have e3 : rows.getD i [] = r := Option.some.inj h2
  have li := hi i (List.mem_of_getElem? e1)
  have lr : i < rows.length := by rw [← ra.2.1]; exact li
  rw [List.getD_eq_getElem?_getD, List.getElem?_eq_getElem li] at e2
  rw [List.getD_eq_getElem?_getD, List.getElem?_eq_getElem lr] at e3
  exact s _ _ (ra.2.2 i t r (by rw [List.getElem?_eq_getElem li]; exact congrArg some e2) (by rw [List.getElem?_eq_getElem lr]; exact congrArg some e3))
/-- new rows, each its own tuple -/
theorem rows_any {H : Hp} {D : Addr} {Pr : Nat → List Str → Prop} : ∀ {zs : List V}, (∀ (i : Nat) (v : V), zs[i]? = some v → ∃ (u : Addr) (r : List Str), v = V.ref u ∧ Pr i r ∧ TupO H u (r.map V.str)) →
    ∃ (us : List Addr) (cs : List (List Str)), zs = us.map V.ref ∧ us.length = cs.length ∧ (∀ (j : Nat) (t : Addr) (r : List Str), us[j]? = some t → cs[j]? = some r → TupO H t (r.map V.str)) ∧ ∀ (j : Nat) (r : List Str), cs[j]? = some r → Pr j r
  | [], _ => ⟨[], [], rfl, rfl, fun j t r h _ => by simp at h, fun j r h => by simp at h⟩
  | z :: zs, hz => by
    obtain ⟨u, r, rfl, p, t⟩ := hz 0 z rfl
    obtain ⟨us, cs, rfl, l, h1, h2⟩ := rows_any (D := D) (Pr := fun i => Pr (i + 1)) (zs := zs) fun i v hv => hz (i + 1) v hv
    refine ⟨u :: us, r :: cs, rfl, congrArg Nat.succ l, fun j t' r' e1 e2 => ?_, fun j r' e => ?_⟩
    · cases j with
      | zero =>
        obtain rfl := Option.some.inj e1
        obtain rfl := Option.some.inj e2
        exact t
      | succ j => exact h1 j t' r' e1 e2
    · cases j with
      | zero =>
        obtain rfl := Option.some.inj e
        exact p
      | succ j => exact h2 j r' e
theorem eqv_nil (xs : List PyData) : PyData.eqv (.list xs) (.list []) = decide (xs = []) := by
  cases xs with
  | nil => rw [PyData.eqv, PyData.eqvAll]; rfl
  | cons a r => rw [PyData.eqv, PyData.eqvAll]; rfl
theorem RowsAt.take {H H' : Hp} {l q : Addr} {ts : List Addr} {rows : List (List Str)} (ra : RowsAt H l ts rows) (n : Nat) (s : ∀ a xs, TupO H a xs → TupO H' a xs) (e : H' q = some (.lst ((ts.take n).map V.ref))) : RowsAt H' q (ts.take n) (rows.take n) := by
  refine ⟨e, by rw [List.length_take, List.length_take, ra.2.1], fun j t r h1 h2 => ?_⟩
  rw [List.getElem?_take] at h1 h2
  by_cases c : j < n
  · rw [if_pos c] at h1 h2
    exact s _ _ (ra.2.2 j t r h1 h2)
  · rw [if_neg c] at h1
    cases h1
end MH
namespace MH
open PySem PySem.Spec PyProof.Rows L2
/-! ### list.count of texts -/
def rCntS (K : PySem.W.Frag) : V → List V → Hp → VK → Prop := fun x xs H Q => ∃ (p : Addr) (ss : List Str) (z : Str), x = .ref p ∧ xs = [.str z] ∧ SqL K H p (ss.map V.str) ∧ ss.length ≤ 1000 ∧ Q (.int (ss.count z : Nat)) H
theorem strs_plain : ∀ ss : List Str, PyData.plainAll (ss.map PyData.str) = true
  | [] => by simp only [List.map_nil, PyData.plainAll]
  | b :: r => by
    rw [List.map_cons, PyData.plainAll, strs_plain r]
    simp only [PyData.plain, Bool.and_true]
theorem strs_count (z : Str) : ∀ ss : List Str, (ss.map PyData.str).countP (fun y => PyData.eqv y (.str z)) = ss.count z
  | [] => rfl
  | c :: r => by
    rw [List.map_cons, List.countP_cons, List.count_cons, strs_count z r]
    congr 1
theorem mt_scount {X : Cx} (hu : X.A.units + 64 < cLine) : MtR X "list.count" (rCntS X.K) := by
  intro pins s σ H x xs v us Q I rx rxs h
  obtain ⟨p, ss, z, rfl, rfl, hs, hz, q⟩ := h
  cases rx
  obtain ⟨u, rfl, ru⟩ := rxs.one
  obtain ⟨tk, rfl⟩ : ∃ tk, u = Value.str z tk := ru
  obtain ⟨its, rv, pl, hlen⟩ := I.list hs
  obtain ⟨as, rd⟩ := Dp.readsAll I _ _ _ (dp_strs ss) rv
  refine PySem.SeqAt.count_list_data (vs := its.toArray) (xs := ss.map PyData.str) (d := .str z) pl.isList (by simpa using rd) (Reads.str z tk) (strs_plain ss) (by simp only [PyData.plain]) (by rw [depth_strs]; simp only [PyData.depth]; omega) ?_
  rw [strs_count]
  exact ⟨.int (ss.count z : Nat), H, I.tok _, ⟨_, rfl⟩, q⟩
/-! ### the table of a house -/
def cntFirst (rows : List (List Str)) (z : Str) : Nat := (rows.map fun r => r.headD "").count z
def lineS (th : List Str) (rows : List (List Str)) (i : Nat) (z : Str) : Str := ((Str.empty ++ Txt.ljust z 8) ++ Txt.rjust (Str.ofString (toString ((cntFirst rows z : Nat) : Int))) 5) ++ Txt.rjust (Str.ofString (toString (((crestI th rows i).length : Nat) : Int))) 5
theorem len_l8 {z : Str} (h : z.length ≤ 8) : (Txt.ljust z 8).length ≤ 8 := by
  unfold Txt.ljust
  by_cases c : (8 : Int) ≤ (z.length : Nat)
  · rw [if_pos c]
    exact h
  · rw [if_neg c, size_padded]
    have : (8 : Int).toNat = 8 := rfl
    omega
theorem len_r5 {n : Nat} (h : n < 25) : (Txt.rjust (Str.ofString (toString (n : Int))) 5).length ≤ 5 :=
  (by decide +kernel : ∀ n : Fin 25, (Txt.rjust (Str.ofString (toString ((n.val : Nat) : Int))) 5).length ≤ 5) ⟨n, h⟩
theorem crest_len (th : List Str) (rows : List (List Str)) (i : Nat) : (crestI th rows i).length ≤ rows.length := by
  have := greatF_len (downI (rows.map fun row => (belowI th row).getD i 0)) []
  have e2 : (downI (rows.map fun row => (belowI th row).getD i 0)).length = rows.length := by
    unfold downI
    rw [(List.mergeSort_perm _ _).length_eq, List.length_map]
  unfold crestI greatI
  rw [List.length_nil] at *
  omega
theorem cnt_le (rows : List (List Str)) (z : Str) : cntFirst rows z ≤ rows.length := by
  have := List.count_le_length (a := z) (l := rows.map fun r => r.headD "")
  rw [List.length_map] at this
  exact this
def tableS (th : List Str) (rows : List (List Str)) : Str := Txt.join "\n" ((List.range th.length).map fun i => lineS th rows i (th.getD i ""))
theorem line_len {th : List Str} {rows : List (List Str)} (hl : rows.length ≤ 24) (i : Nat) {z : Str} (h : nameOk z = true) : (lineS th rows i z).length ≤ 18 := by
  have a := len_l8 (nameOk_len h)
  have b := len_r5 (n := cntFirst rows z) (by have := cnt_le rows z; omega)
  have c := len_r5 (n := (crestI th rows i).length) (by have := crest_len th rows i; omega)
  unfold lineS
  rw [size_cat, size_cat, size_cat]
  have e : Str.empty.length = 0 := rfl
  omega
theorem sum_le {α : Type} (f : α → Nat) {m : Nat} : ∀ l : List α, (∀ a ∈ l, f a ≤ m) → (l.map f).sum ≤ l.length * m
  | [], _ => Nat.zero_le _
  | a :: r, h => by
    have h1 := h a List.mem_cons_self
    have h2 := sum_le f r fun b hb => h b (List.mem_cons_of_mem _ hb)
    rw [List.map_cons, List.sum_cons, List.length_cons, Nat.succ_mul]
    omega
theorem lines_le {th : List Str} {rows : List (List Str)} (ro : RowsOk th rows) : (((List.range th.length).map fun i => lineS th rows i (th.getD i "")).map (fun x => x.length)).sum + ((List.range th.length).map fun i => lineS th rows i (th.getD i "")).length * ("\n" : Str).length ≤ 16777216 := by
  have a := sum_le (fun x : Str => x.length) (m := 18) ((List.range th.length).map fun i => lineS th rows i (th.getD i "")) fun x hx => by
    obtain ⟨i, hi, rfl⟩ := List.mem_map.mp hx
    have hi := List.mem_range.mp hi
    refine line_len ro.le i (ro.thOk.ok _ ?_)
    rw [List.getD_eq_getElem?_getD, List.getElem?_eq_getElem hi]
    exact List.getElem_mem hi
  have e : ("\n" : Str).length = 1 := rfl
  have l := ro.thOk.le
  have b : ((List.range th.length).map fun i => lineS th rows i (th.getD i "")).length = th.length := by rw [List.length_map, List.length_range]
  rw [b] at a
  rw [e, b]
  omega
def spTable (K : PySem.W.Frag) (C C2 : Addr) : Sp := fun vs H Q _ => ∃ (x : Addr) (th : List Str) (rows : List (List Str)), vs = [.ref x] ∧ HsK K C C2 H x th rows ∧ ∀ H', Same H H' → Q (.str (tableS th rows)) H'
section
variable {P : Program} {w : World} {K : PySem.W.Frag} {mg : Str → Option Value} {base : Heap}
theorem ok_House_table (T : Tx K mg) : FnOk P w K mg base CX0 3 T.a_House_table T.fd_House_table ["self"] (spTable K T.C T.C2) := by
  refine T.F_House_table.ok sc_House_table (fun vs H Q E h => ?_) (fun cdv A outer s H vs Q E hr h => ?_)
  · obtain ⟨x, th, rows, rfl, _⟩ := h
    rfl
  · obtain ⟨x, th, rows, rfl, hs, k⟩ := h
    have roK := hs.rowsOk
    obtain ⟨hok, _, hle, _⟩ := hs.ok
    obtain ⟨dx, rt, ts, ct, rs, cs, hx, h2, h3, h4, h5, h6, h7, h8, _⟩ := hs
    refine ⟨_, (pss_cons (ps_set (i := 1) sc_House_table.nd rfl (Or.inr rfl) (pe_lc (own := [("ranking", 3)]) (g := gName 3) (tt := tYes) rfl sc_House_table.nd (pi_tup (pe_fld (pv 0) rfl)) (blkOk_by (own := [("ranking", 3)]) (N := names_House_table) (sc := defScope st_House_table) (by decide +kernel)) (fun _ _ _ _ _ => pg_name (i := 3) sc_House_table.nd rfl (Or.inl rfl)) (fun _ _ _ _ _ => pts_nil) (fun _ _ _ _ _ => (pe_ix (r := rIxT K) ix_tup (pe_prop (pv 3) T.cl T.p_row (ok_Ranking_row T) (hr.mono (by decide)) T.b_Ranking_row .nil pass0 (by rfl)) pe_int (fun _ _ => rfl)))))
      (pss_cons (ps_setLc (i := 2) (own := [("thing", 4), ("masks", 5)]) (g := gTup K 2 (gCons (gName 4) (gCons (gName 5) gNil))) (tt := tYes) rfl sc_House_table.nd rfl rfl (sw_true rfl rfl rfl (by decide +kernel)) (RZ.pi_zipA (by rfl) T.n_zip (pa_cons (pe_fld (pv 0) rfl) (pa_cons (pe_fld (pv 0) rfl) pa_nil))) (blkOk_by (own := [("thing", 4), ("masks", 5)]) (N := names_House_table) (sc := defScope st_House_table) (by decide +kernel)) (fun _ _ _ _ _ => pg_tup rfl (pgs_cons (pg_name (i := 4) sc_House_table.nd rfl (Or.inl rfl)) (pgs_cons (pg_name (i := 5) sc_House_table.nd rfl (Or.inl rfl)) pgs_nil))) (fun _ _ _ _ _ => pts_nil) (fun _ _ _ _ _ => (pe_joinedF (PJ.cons (pe_fmtL8 (pv 4)) (PJ.cons (pe_fmtR5 (pe_bmK (K := K) (r := rCntS K) rfl PySem.F.plainAttrs_list PySem.F.slot_list_count PySem.F.type_list_count (mt_scount hr.units) (pv 1) (pa_cons (pv 4) pa_nil))) (PJ.cons (pe_fmtR5 (pe_callB (r := rLenSq K) (id := "len") call_len_seq (by rfl) T.n_len (by decide +kernel) (pa_cons (pv 5) pa_nil))) PJ.nil))))))
      (pss_one (ps_ret (pe_join pe_str (pv 2)))))), ?_⟩
    have el : rs.length = rows.length := by rw [← h4, List.length_map]
    have hrow : ∀ {i : Nat} {r : Rk3}, rs[i]? = some r → rows[i]? = some r.2.2 := fun {i r} h => by
      rw [← h4, List.getElem?_map, h]
      rfl
    refine ⟨_, rfl, x, T.C2, dx, _, _, rfl, hx, T.cl2, T.no__rankings2, hf_r rt ts ct, rt, rfl, ⟨_, h2⟩, fun D nD => lcv walk_tup rs (fun r => V.str (r.2.2.headD "")) (by rw [List.length_map]) nD (by rw [List.length_map]; omega) (fun H' s => s.sqt h2) (fun _ _ _ _ _ y => yat_same y) (fun i r x1 H1 H2 hr1 s1 y Z hZ => ?_) (fun H1 s1 e1 => ?_)⟩
    · obtain ⟨rfl, hx1⟩ := y
      obtain ⟨r', hr', rfl⟩ := rk_at hx1
      obtain rfl : r' = r := Option.some.inj (hr'.symm.trans hr1)
      obtain ⟨rk, pm⟩ := h3 r' (List.mem_of_getElem? hr1)
      have rk1 := rk.same s1
      have ne := rk.ok.ne
      obtain ⟨dxr, tsr, thr, hxr, _⟩ := id rk1
      have ht := rk1.tup
      refine ⟨rfl, ?_⟩
      obtain ⟨z, rr, er⟩ := List.exists_cons_of_ne_nil ne
      refine ⟨_, rfl, _, dxr, _, rfl, hxr, _, _, _, rfl, rk1, r'.2.1, _, 0, V.str z, rfl, rfl, ht.sqt, ?_, ?_⟩
      · rw [er]
        exact atI_nat (j := 0) rfl
      · have q := hZ _ (Same.refl _)
        rw [er] at q
        exact q
    · have lth := roK.thOk.le
      have lcs := h7
      have e1' : rs.map (fun r => V.str (r.2.2.headD "")) = (rows.map fun r => r.headD "").map V.str := by
        rw [← h4, List.map_map, List.map_map]
        rfl
      rw [e1'] at e1
      refine ⟨_, rfl, x, T.C2, dx, _, _, rfl, s1 _ _ hx, T.cl2, T.no__things2, hf_t rt ts ct, _, rfl, x, T.C2, dx, _, _, rfl, s1 _ _ hx, T.cl2, T.no__crest_masks2, hf_c rt ts ct, ts, ct, _, _, rfl, .inr ⟨s1.sqt h5, s1.sqt h6, fun D2 nD2 => lcv (walk_zipT (K := K) (a := ts) (b := ct) (xs := th.map V.str) (ys := cs.map V.ref) rfl) (List.range th.length) (fun i => V.str (lineS th rows i (th.getD i ""))) (by rw [List.length_range, List.length_map, List.length_map]; omega) nD2 (by rw [List.length_map, List.length_map]; omega) (fun H' s => ⟨s.sqt (s1.sqt h5), s.sqt (s1.sqt h6)⟩) (fun _ _ _ _ _ y => ypair_same y) (fun i u x1 H2 H3 hu s2 y Z hZ => ?_) (fun H2 s2 e2 => ?_)⟩⟩
      · obtain ⟨p, y1, y2, rfl, np, rfl, e3, e4⟩ := y
        obtain ⟨z, hz, rfl⟩ := str_at e3
        obtain ⟨c, hc, rfl⟩ := ref_at e4
        have eu : u = i := by
          obtain ⟨_, q⟩ := List.getElem?_eq_some_iff.mp hu
          rw [List.getElem_range] at q
          exact q.symm
        subst eu
        have ez : th.getD u "" = z := by rw [List.getD_eq_getElem?_getD, hz]; rfl
        rw [ez] at hZ
        have nz := roK.thOk.ok z (List.mem_of_getElem? hz)
        have bl := line_len (th := th) hle u nz
        have c1 : cntFirst rows z < 25 := by have := cnt_le rows z; omega
        have c2 : (crestI th rows u).length < 25 := by have := crest_len th rows u; omega
        have l1 := len_l8 (nameOk_len nz)
        have l2 := len_r5 c1
        have l3 := len_r5 c2
        have s12 := s1.trans (s2.new' np (o := .tup [.str z, .ref c]))
        refine ⟨p, _, rfl, tup_of upd_same, rfl, _, _, rfl, _, _, rfl, rfl, rfl, ?_⟩
        have lr : ((rows.map fun r => r.headD "").map V.str).length ≤ 24 := by rw [List.length_map, List.length_map]; exact hle
        have sD : SqL K (upd H2 p (.tup [.str z, .ref c])) D ((rows.map fun r => r.headD "").map V.str) := lst_of ((s2.new' np) _ _ e1)
        have sC := s12.sqt (h8 _ _ hc)
        refine ⟨_, rfl, z, rfl, _, rfl, ?_, ?_⟩
        · exact le_line (by rw [size_cat]; have e : Str.empty.length = 0 := rfl; omega)
        refine ⟨_, rfl, .inl ⟨rfl, _, sD⟩, _, rfl, D, rows.map fun r => r.headD "", z, rfl, rfl, sD, by rw [List.length_map]; omega, cntFirst rows z, rfl, c1, _, rfl, ?_, ?_⟩
        · exact le_line (by rw [size_cat, size_cat]; have e : Str.empty.length = 0 := rfl; omega)
        refine ⟨_, rfl, c, _, rfl, .inr sC, (crestI th rows u).length, by rw [List.length_map], c2, _, rfl, ?_, ?_⟩
        · refine le_line (by rw [size_cat, size_cat, size_cat]; have e : Str.empty.length = 0 := rfl; omega)
        exact hZ _ (Same.refl _)
      · have e2' : (List.range th.length).map (fun i => V.str (lineS th rows i (th.getD i ""))) = ((List.range th.length).map fun i => lineS th rows i (th.getD i "")).map V.str := by
          rw [List.map_map]
          rfl
        rw [e2'] at e2
        refine ⟨⟨_, rfl⟩, _, rfl, "\n", D2, ((List.range th.length).map fun i => lineS th rows i (th.getD i "")), rfl, rfl, .inl (lst_of e2), lines_le roK, ?_⟩
        exact k _ (s1.trans s2)
end
end MH
namespace MH
open PySem PySem.Spec PyProof.Rows L2
/-! ### crests: the greatest sets below a thing -/
theorem subN_le {a b : Nat} (h : subN a b) : a ≤ b := by
  rw [← and_sub.mpr h]
  exact Nat.and_le_right
theorem subN_anti {a b : Nat} (h : subN a b) (g : subN b a) : a = b := Nat.eq_of_testBit_eq fun i => by
  rw [Bool.eq_iff_iff]
  exact ⟨h i, g i⟩
theorem cz_inj {a b : List Nat} (h : a.map (fun (n : Nat) => ((n : Nat) : Int)) = b.map (fun (n : Nat) => ((n : Nat) : Int))) : a = b := map_inj1 (fun x y e => by omega) h
theorem great_desc : ∀ {r f : List Nat}, f.Pairwise (fun a b => b ≤ a ∧ ¬ subN b a) → r.Pairwise (fun a b => b ≤ a) → (∀ a ∈ f, ∀ b ∈ r, b ≤ a) →
    ∃ g : List Nat, greatF (f.map fun (n : Nat) => ((n : Nat) : Int)) (r.map fun (n : Nat) => ((n : Nat) : Int)) = g.map (fun (n : Nat) => ((n : Nat) : Int)) ∧ g.Pairwise fun a b => b ≤ a ∧ ¬ subN b a
  | [], f, hf, _, _ => ⟨f, rfl, hf⟩
  | m :: r, f, hf, hr, hfr => by
    obtain ⟨hm, hr⟩ := List.pairwise_cons.mp hr
    rw [List.map_cons, greatF]
    by_cases c : covI (m : Int) (f.map fun (n : Nat) => ((n : Nat) : Int)) = true
    · rw [if_pos c]
      exact great_desc hf hr fun a ha b hb => hfr a ha b (List.mem_cons_of_mem _ hb)
    · rw [if_neg c]
      obtain ⟨g, e, h⟩ := great_desc (r := r) (f := f ++ [m]) (List.pairwise_append.mpr ⟨hf, List.pairwise_singleton _ _, fun a ha b hb => by
        rw [List.mem_singleton.mp hb]
        exact ⟨hfr a ha m List.mem_cons_self, fun q => c (cov_nat.mpr ⟨a, ha, q⟩)⟩⟩) hr fun a ha b hb => by
          rcases List.mem_append.mp ha with ha | ha
          · exact hfr a ha b (List.mem_cons_of_mem _ hb)
          · rw [List.mem_singleton.mp ha]
            exact hm b hb
      rw [List.map_append] at e
      exact ⟨g, e, h⟩
theorem great_max (ns : List Nat) : ∃ g : List Nat, greatI (ns.map fun (n : Nat) => ((n : Nat) : Int)) = g.map (fun (n : Nat) => ((n : Nat) : Int)) ∧ g.Nodup ∧ g.Pairwise (fun a b => b ≤ a) ∧ ∀ o, o ∈ g ↔ o ∈ ns ∧ ∀ b ∈ ns, subN o b → b = o := by
  obtain ⟨r, er, pr⟩ := nats_of_perm (List.mergeSort_perm (ns.map fun (n : Nat) => ((n : Nat) : Int)) fun a b => decide (b ≤ a))
  have sr := List.pairwise_mergeSort (le := fun a b : Int => decide (b ≤ a)) (fun a b c h1 h2 => by simp only [decide_eq_true_eq] at *; omega) (fun a b => by simp only [Bool.or_eq_true, decide_eq_true_eq]; omega) (ns.map fun (n : Nat) => ((n : Nat) : Int))
  rw [er, List.pairwise_map] at sr
  obtain ⟨g, eg, pg⟩ := great_desc (r := r) (f := []) List.Pairwise.nil (sr.imp fun {a b} h => by have := of_decide_eq_true h; omega) (fun _ h => nomatch h)
  have e : greatI (ns.map fun (n : Nat) => ((n : Nat) : Int)) = g.map (fun (n : Nat) => ((n : Nat) : Int)) := by
    unfold greatI downI
    rw [er]
    exact eg
  have sub : (∀ o ∈ g, o ∈ ns) ∧ ∀ a, (∃ o ∈ g, subN a o) ↔ ∃ o ∈ ns, subN a o := by
    refine ⟨?_, fun a => ?_⟩
    · obtain ⟨g', e', h1, _⟩ := greatI_cov (a := 0) (ns := ns)
      have : g' = g := cz_inj (e'.symm.trans e)
      rw [← this]
      exact h1
    · obtain ⟨g', e', _, h2⟩ := greatI_cov (a := a) (ns := ns)
      have : g' = g := cz_inj (e'.symm.trans e)
      rw [← this]
      exact h2
  have tri : ∀ {l : List Nat}, l.Pairwise (fun a b => b ≤ a ∧ ¬ subN b a) → ∀ a ∈ l, ∀ b ∈ l, subN a b → a = b := fun {l} pl => by
    induction pl with
    | nil => exact fun _ h => nomatch h
    | @cons x l hx _ ih =>
      intro a ha b hb q
      rcases List.mem_cons.mp ha with rfl | ha1 <;> rcases List.mem_cons.mp hb with rfl | hb1
      · rfl
      · have := subN_le q
        have e := (hx b hb1).1
        omega
      · exact absurd q (hx a ha1).2
      · exact ih a ha1 b hb1 q
  refine ⟨g, e, pg.imp fun {a b} h => fun q => h.2 (by rw [q]; exact fun _ h => h), pg.imp fun {a b} h => h.1, fun o => ⟨fun ho => ⟨sub.1 o ho, fun b hb q => ?_⟩, fun ⟨ho, hm⟩ => ?_⟩⟩
  · obtain ⟨o', ho', q'⟩ := (sub.2 b).mpr ⟨b, hb, fun _ h => h⟩
    have e := tri pg o ho o' ho' (subN_trans q q')
    subst e
    exact subN_anti q' q
  · obtain ⟨o', ho', q'⟩ := (sub.2 o).mpr ⟨o, ho, fun _ h => h⟩
    rw [← hm o' (sub.1 o' ho') q']
    exact ho'
/-- the set below z in a row, in order -/
def lowS (th row : List Str) (z : Str) : List Str := th.filter fun y => decide (y ∈ belowS row z)
theorem lowS_mem {th row : List Str} {z y : Str} (pm : th.Perm row) : y ∈ lowS th row z ↔ y ∈ belowS row z := by
  unfold lowS
  rw [List.mem_filter, decide_eq_true_iff]
  exact ⟨fun h => h.2, fun h => ⟨below_in pm y h, h⟩⟩
theorem up_one {a b : List Str} (ua : a.Pairwise ltS) (ub : b.Pairwise ltS) (h : ∀ y, y ∈ a ↔ y ∈ b) : a = b :=
  List.Perm.eq_of_pairwise (le := fun a b => ltS a b) (fun a b _ _ h1 h2 => absurd (ltS_trans h1 h2) (ltS_irrefl _)) ua ub
    ((List.perm_ext_iff_of_nodup (ua.imp fun {a b} q (e : a = b) => ltS_irrefl a (by subst e; exact q)) (ub.imp fun {a b} q (e : a = b) => ltS_irrefl a (by subst e; exact q))).mpr h)
theorem low_up {th row : List Str} {z : Str} (up : th.Pairwise ltS) : (lowS th row z).Pairwise ltS := up.sublist List.filter_sublist
theorem low_of {th row bs : List Str} {z : Str} (nd : row.Nodup) (pm : th.Perm row) (up : th.Pairwise ltS) (pb : bs.Perm (belowS row z)) (sb : sortedS bs = true) : bs = lowS th row z := by
  have nb : bs.Nodup := pb.nodup_iff.mpr (nd.sublist (List.drop_sublist _ _))
  exact up_one (sorted_lt nb sb) (low_up up) fun y => by rw [pb.mem_iff, lowS_mem pm]
def setsL (th : List Str) (rows : List (List Str)) (z : Str) : List (List Str) := rows.map fun r => lowS th r z
/-- those of the sets that lie in no other -/
def highL (sets : List (List Str)) : List (List Str) := sets.filter fun a => decide (sets.filter (fun b => decide (b ≠ a) && partB a b) = [])
theorem mem_high {sets : List (List Str)} {a : List Str} : a ∈ highL sets ↔ a ∈ sets ∧ ∀ b ∈ sets, (∀ y ∈ a, y ∈ b) → b = a := by
  unfold highL
  rw [List.mem_filter, decide_eq_true_iff, List.filter_eq_nil_iff]
  refine and_congr_right fun _ => ⟨fun h b hb q => ?_, fun h b hb q => ?_⟩
  · by_cases e : b = a
    · exact e
    · exact absurd (by rw [Bool.and_eq_true, decide_eq_true_iff, part_true]; exact ⟨e, q⟩) (h b hb)
  · rw [Bool.and_eq_true, decide_eq_true_iff, part_true] at q
    exact q.1 (h b hb q.2)
theorem high_empty (sets : List (List Str)) : (∀ a ∈ highL sets, a ≠ []) ∨ ∀ a ∈ highL sets, a = [] := by
  by_cases h : [] ∈ highL sets
  · refine .inr fun a ha => ?_
    exact (mem_high.mp h).2 a (mem_high.mp ha).1 fun _ q => nomatch q
  · exact .inl fun a ha e => h (e ▸ ha)
theorem bits_inj {th a b : List Str} (ha : ∀ y ∈ a, y ∈ th) (hb : ∀ y ∈ b, y ∈ th) (ua : a.Pairwise ltS) (ub : b.Pairwise ltS) (e : bitsN th a = bitsN th b) : a = b :=
  up_one ua ub fun y => ⟨fun h => (sub_names ha hb).mp (by rw [e]; exact fun _ h => h) y h, fun h => (sub_names hb ha).mp (by rw [e]; exact fun _ h => h) y h⟩
theorem ns_sets {th : List Str} {rows : List (List Str)} {z : Str} (pm : ∀ r ∈ rows, th.Perm r) : nsOf th rows z = (setsL th rows z).map (bitsN th) := by
  unfold nsOf setsL
  rw [List.map_map]
  exact List.map_congr_left fun r hr => bits_eq fun y => (lowS_mem (pm r hr)).symm
theorem low_sub {th row : List Str} {z : Str} : ∀ y ∈ lowS th row z, y ∈ th := fun y h => (List.mem_filter.mp h).1
/-- the masks of the crests are those of the greatest sets -/
theorem crest_high {th : List Str} {rows : List (List Str)} {z : Str} {i : Nat} (up : th.Pairwise ltS) (pm : ∀ r ∈ rows, th.Perm r) (hz : th[i]? = some z) :
    ∃ g : List Nat, crestI th rows i = g.map (fun (n : Nat) => ((n : Nat) : Int)) ∧ g.Nodup ∧ ∀ o, o ∈ g ↔ ∃ S ∈ highL (setsL th rows z), o = bitsN th S := by
  obtain ⟨g, e, nd, _, hg⟩ := great_max (nsOf th rows z)
  refine ⟨g, by rw [crest_nat rows hz]; exact e, nd, fun o => ?_⟩
  have hs : ∀ S ∈ setsL th rows z, (∀ y ∈ S, y ∈ th) ∧ S.Pairwise ltS := fun S hS => by
    obtain ⟨r, _, rfl⟩ := List.mem_map.mp hS
    exact ⟨low_sub, low_up up⟩
  rw [hg, ns_sets pm]
  constructor
  · rintro ⟨ho, hm⟩
    obtain ⟨S, hS, rfl⟩ := List.mem_map.mp ho
    refine ⟨S, mem_high.mpr ⟨hS, fun b hb q => ?_⟩, rfl⟩
    exact bits_inj (hs b hb).1 (hs S hS).1 (hs b hb).2 (hs S hS).2 (hm _ (List.mem_map.mpr ⟨b, hb, rfl⟩) ((sub_names (hs S hS).1 (hs b hb).1).mpr q))
  · rintro ⟨S, hS, rfl⟩
    obtain ⟨h1, h2⟩ := mem_high.mp hS
    refine ⟨List.mem_map.mpr ⟨S, h1, rfl⟩, fun b hb q => ?_⟩
    obtain ⟨S', hS', rfl⟩ := List.mem_map.mp hb
    rw [h2 S' hS' ((sub_names (hs S h1).1 (hs S' hS').1).mp q)]
/-! ### each of them once, in order -/
abbrev Pk : Type := Str × List Str
def pk0 : Pk := ("", [])
def leP (a b : Pk) : Prop := ltS a.1 b.1 ∨ (a.1 = b.1 ∧ ltR b.2 a.2 = false)
def ltP (a b : Pk) : Prop := ltS a.1 b.1 ∨ (a.1 = b.1 ∧ ltR a.2 b.2 = true)
/-- p: one of the crests -/
def IsPk (th : List Str) (rows : List (List Str)) (p : Pk) : Prop := p.1 ∈ th ∧ p.2 ∈ highL (setsL th rows p.1)
def onceG {α : Type} [DecidableEq α] (d : α) (l : List α) (n : Nat) : List α := ((List.range n).filter fun i => !decide (l.getD i d ∈ l.take i)).map fun i => l.getD i d
theorem onceG_ok {α : Type} [DecidableEq α] {d : α} {l : List α} : ∀ {n : Nat}, n ≤ l.length → (onceG d l n).Nodup ∧ ∀ r, r ∈ onceG d l n ↔ r ∈ l.take n
  | 0, _ => ⟨List.nodup_nil, fun r => by simp [onceG]⟩
  | n + 1, h => by
    obtain ⟨nd, m⟩ := onceG_ok (d := d) (l := l) (n := n) (by omega)
    have g : l[n]? = some l[n] := List.getElem?_eq_getElem (by omega)
    have gd : l.getD n d = l[n] := by
      rw [List.getD_eq_getElem?_getD, g]
      rfl
    have e : onceG d l (n + 1) = onceG d l n ++ (if l[n] ∈ l.take n then [] else [l[n]]) := by
      unfold onceG
      rw [List.range_succ, List.filter_append, List.map_append]
      congr 1
      rw [List.filter_cons, gd]
      by_cases c : l[n] ∈ l.take n
      · rw [if_pos c, decide_eq_true c]
        rfl
      · rw [if_neg c, decide_eq_false c]
        show [l.getD n d] = _
        rw [gd]
    rw [e, List.take_add_one, g]
    by_cases c : l[n] ∈ l.take n
    · rw [if_pos c, List.append_nil]
      refine ⟨nd, fun r => ?_⟩
      rw [m r, List.mem_append]
      exact ⟨.inl, fun q => q.elim id fun q => by rw [List.mem_singleton.mp q]; exact c⟩
    · rw [if_neg c]
      refine ⟨List.nodup_append.mpr ⟨nd, List.nodup_cons.mpr ⟨List.not_mem_nil, List.nodup_nil⟩, fun a ha b hb q => ?_⟩, fun r => ?_⟩
      · rw [List.mem_singleton.mp hb] at q
        rw [q] at ha
        exact c ((m _).mp ha)
      · rw [List.mem_append, List.mem_append, m r]
        exact Iff.rfl
theorem onceG_sub {α : Type} [DecidableEq α] (d : α) (l : List α) : (onceG d l l.length).Sublist l := pick_sub l d List.filter_sublist
theorem once_lt {R : List Pk} (h : R.Pairwise leP) : (onceG pk0 R R.length).Pairwise ltP := by
  have h1 := h.sublist (onceG_sub pk0 R)
  have h2 := (onceG_ok (d := pk0) (l := R) (Nat.le_refl _)).1
  refine List.Pairwise.imp₂ (R := leP) (S := fun x y => x ≠ y) (fun a b q n => ?_) h1 h2
  rcases q with q | ⟨q, r⟩
  · exact .inl q
  · refine .inr ⟨q, ?_⟩
    cases e : ltR a.2 b.2 with
    | true => rfl
    | false => exact absurd (Prod.ext q (ltR_tri _ _ e r)) n
theorem ltP_ne {a b : Pk} (h : ltP a b) : a ≠ b := fun e => by
  subst e
  rcases h with h | ⟨_, h⟩
  · exact ltS_irrefl _ h
  · rw [ltR_irrefl] at h
    cases h
/-- as many crests of a thing as masks -/
theorem count_pk {th : List Str} {rows : List (List Str)} {R : List Pk} {z : Str} {i : Nat} (up : th.Pairwise ltS) (pm : ∀ r ∈ rows, th.Perm r) (hz : th[i]? = some z) (hR : R.Pairwise ltP) (hm : ∀ p, p ∈ R ↔ IsPk th rows p) :
    (R.filter fun p => decide (p.1 = z)).length = (crestI th rows i).length := by
  obtain ⟨g, e, nd, hg⟩ := crest_high up pm hz
  rw [e, List.length_map]
  have hp : ((R.filter fun p => decide (p.1 = z)).map fun p => bitsN th p.2).Perm g := by
    have fz : ∀ p ∈ R.filter (fun p => decide (p.1 = z)), p.1 = z ∧ p.2 ∈ highL (setsL th rows z) := fun p hp => by
      obtain ⟨h1, h2⟩ := List.mem_filter.mp hp
      have h2 := of_decide_eq_true h2
      have h3 := (hm p).mp h1
      refine ⟨h2, ?_⟩
      have := h3.2
      rw [h2] at this
      exact this
    have hs : ∀ S ∈ highL (setsL th rows z), (∀ y ∈ S, y ∈ th) ∧ S.Pairwise ltS := fun S hS => by
      obtain ⟨r, _, rfl⟩ := List.mem_map.mp (mem_high.mp hS).1
      exact ⟨low_sub, low_up up⟩
    have nd1 : ((R.filter fun p => decide (p.1 = z)).map fun p => bitsN th p.2).Nodup := by
      refine List.pairwise_map.mpr ?_
      refine ((hR.sublist List.filter_sublist).imp_of_mem (S := fun a b => bitsN th a.2 ≠ bitsN th b.2) fun {a b} ha hb q => ?_)
      intro eb
      obtain ⟨a1, a2⟩ := fz a ha
      obtain ⟨b1, b2⟩ := fz b hb
      exact ltP_ne q (Prod.ext (a1.trans b1.symm) (bits_inj (hs _ a2).1 (hs _ b2).1 (hs _ a2).2 (hs _ b2).2 eb))
    refine (List.perm_ext_iff_of_nodup nd1 nd).mpr fun o => ?_
    rw [hg, List.mem_map]
    constructor
    · rintro ⟨p, hp, rfl⟩
      exact ⟨p.2, (fz p hp).2, rfl⟩
    · rintro ⟨S, hS, rfl⟩
      exact ⟨(z, S), List.mem_filter.mpr ⟨(hm _).mpr ⟨List.mem_of_getElem? hz, hS⟩, decide_eq_true rfl⟩, rfl⟩
  rw [← hp.length_eq, List.length_map]
end MH
namespace MH
open PySem PySem.Spec PyProof.Rows L2
/-! ### the crests by rows -/
/-- pairs of a thing and a set at these places -/
def PairsAt (K : PySem.W.Frag) (H : Hp) (ps : List Addr) (R : List Pk) : Prop := ps.length = R.length ∧ ∀ (i : Nat) (p : Addr) (r : Pk), ps[i]? = some p → R[i]? = some r → ∃ t : Addr, SqT K H p [V.str r.1, V.ref t] ∧ SqT K H t (r.2.map V.str)
theorem PairsAt.same {K : PySem.W.Frag} {H H' : Hp} {ps : List Addr} {R : List Pk} (h : PairsAt K H ps R) (s : Same H H') : PairsAt K H' ps R := ⟨h.1, fun i p r h1 h2 => let ⟨t, a, b⟩ := h.2 i p r h1 h2; ⟨t, s.sqt a, s.sqt b⟩⟩
theorem PairsAt.append {K : PySem.W.Frag} {H : Hp} {ps qs : List Addr} {R S : List Pk} (h : PairsAt K H ps R) (g : PairsAt K H qs S) : PairsAt K H (ps ++ qs) (R ++ S) := by
  refine ⟨by rw [List.length_append, List.length_append, h.1, g.1], fun i p r h1 h2 => ?_⟩
  by_cases c : i < ps.length
  · rw [List.getElem?_append_left c] at h1
    rw [List.getElem?_append_left (by rw [← h.1]; exact c)] at h2
    exact h.2 i p r h1 h2
  · rw [List.getElem?_append_right (by omega)] at h1
    rw [List.getElem?_append_right (by rw [← h.1]; omega), ← h.1] at h2
    exact g.2 _ p r h1 h2
theorem PairsAt.nil {K : PySem.W.Frag} {H : Hp} : PairsAt K H [] [] := ⟨rfl, fun i p r h _ => by simp at h⟩
theorem PairsAt.take {K : PySem.W.Frag} {H : Hp} {ps : List Addr} {R : List Pk} (h : PairsAt K H ps R) (n : Nat) : PairsAt K H (ps.take n) (R.take n) := by
  refine ⟨by rw [List.length_take, List.length_take, h.1], fun i p r h1 h2 => ?_⟩
  rw [List.getElem?_take] at h1 h2
  by_cases c : i < n
  · rw [if_pos c] at h1 h2
    exact h.2 i p r h1 h2
  · rw [if_neg c] at h1
    cases h1
theorem PairsAt.pick {K : PySem.W.Frag} {H : Hp} {ps : List Addr} {R : List Pk} (h : PairsAt K H ps R) (is : List Nat) (hi : ∀ i ∈ is, i < ps.length) : PairsAt K H (is.map fun i => ps.getD i 0) (is.map fun i => R.getD i pk0) := by
  refine ⟨by rw [List.length_map, List.length_map], fun j t r h1 h2 => ?_⟩
  rw [List.getElem?_map] at h1 h2
  obtain ⟨i, e1, e2⟩ := Option.map_eq_some_iff.mp h1
  rw [e1] at h2
  have e3 : R.getD i pk0 = r := Option.some.inj h2
  have li := hi i (List.mem_of_getElem? e1)
  have lr : i < R.length := by rw [← h.1]; exact li
  rw [List.getD_eq_getElem?_getD, List.getElem?_eq_getElem li] at e2
  rw [List.getD_eq_getElem?_getD, List.getElem?_eq_getElem lr] at e3
  exact h.2 i t r (by rw [List.getElem?_eq_getElem li]; exact congrArg some e2) (by rw [List.getElem?_eq_getElem lr]; exact congrArg some e3)
def pkD (r : Pk) : PyData := .tuple [.str r.1, .tuple (r.2.map PyData.str)]
theorem pair_dp {K : PySem.W.Frag} {H : Hp} {p t : Addr} {r : Pk} (h : SqT K H p [V.str r.1, V.ref t]) (g : SqT K H t (r.2.map V.str)) : Dp K H (.ref p) (pkD r) := .tup h (.cons (.str _) (.cons (.tup g (dp_strs _)) .nil))
theorem PairsAt.dp {K : PySem.W.Frag} {H : Hp} : ∀ {ps : List Addr} {R : List Pk}, PairsAt K H ps R → DpAll K H (ps.map V.ref) (R.map pkD)
  | [], [], _ => .nil
  | [], _ :: _, h => by cases h.1
  | _ :: _, [], h => by cases h.1
  | p :: ps, r :: R, h => by
    obtain ⟨t, a, b⟩ := h.2 0 p r rfl rfl
    exact .cons (pair_dp a b) (PairsAt.dp (ps := ps) (R := R) ⟨Nat.succ.inj h.1, fun i p' r' h1 h2 => h.2 (i + 1) p' r' h1 h2⟩)
theorem eqv_pk (a b : Pk) : PyData.eqv (pkD a) (pkD b) = decide (a = b) := by
  unfold pkD
  have e := eqv_strs a.2 b.2
  rw [PyData.eqv, PyData.eqvAll, PyData.eqvAll, PyData.eqvAll, e]
  have es : PyData.eqv (.str a.1) (.str b.1) = decide (a.1 = b.1) := by
    rw [PyData.eqv]
    by_cases q : a.1 = b.1
    · rw [decide_eq_true q]; exact beq_iff_eq.mpr q
    · rw [decide_eq_false q]; exact beq_eq_false_iff_ne.mpr q
  rw [es, Bool.and_true]
  by_cases q : a = b
  · subst q
    simp
  · rw [decide_eq_false q]
    by_cases q1 : a.1 = b.1
    · by_cases q2 : a.2 = b.2
      · exact absurd (Prod.ext q1 q2) q
      · rw [decide_eq_false q2, Bool.and_false]
    · rw [decide_eq_false q1, Bool.false_and]
theorem eqv_pks (r : Pk) : ∀ R : List Pk, ((R.map pkD).any fun z => PyData.eqv z (pkD r)) = decide (r ∈ R)
  | [] => rfl
  | y :: R => by
    rw [List.map_cons, List.any_cons, eqv_pks r R, eqv_pk]
    by_cases q : y = r
    · subst q
      simp
    · have q2 : ¬ r = y := fun e => q e.symm
      simp [q, q2]
theorem okDs_names {rows : List (List Str)} (h : ∀ r ∈ rows, ∀ z ∈ r, nameOk z = true) : okDs (rows.map fun x => PyData.tuple (x.map PyData.str)) = true := by
  induction rows with
  | nil => rfl
  | cons r rows ih =>
    show (okD (.tuple (r.map PyData.str)) && okDs (rows.map fun x => PyData.tuple (x.map PyData.str))) = true
    rw [ih fun x hx => h x (List.mem_cons_of_mem _ hx)]
    have e : okD (.tuple (r.map PyData.str)) = true := okDs_strs fun z hz => nameOk_str (h r List.mem_cons_self z hz)
    rw [e]
    rfl
theorem shaped_names {rows : List (List Str)} (h : ∀ r ∈ rows, ∀ z ∈ r, nameOk z = true) : SeqAt.shaped (.list (rows.map fun x => PyData.tuple (x.map PyData.str))) = true := by
  refine shaped_of (d := .list _) (okDs_names h) ?_
  have d1 : ∀ x : List Str, PyData.depth (PyData.tuple (x.map PyData.str)) ≤ 1 := fun x => by
    simp only [PyData.depth, depth_strs]
    decide
  have := depth_all d1 rows
  simp only [PyData.depth]
  omega
def PkOk (r : Pk) : Prop := nameOk r.1 = true ∧ ∀ y ∈ r.2, nameOk y = true
theorem okD_pk {r : Pk} (h : PkOk r) : okD (pkD r) = true := by
  show (okD (.str r.1) && (okD (.tuple (r.2.map PyData.str)) && true)) = true
  have e : okD (.tuple (r.2.map PyData.str)) = true := okDs_strs fun z hz => nameOk_str (h.2 z hz)
  have e1 : okD (.str r.1) = true := nameOk_str h.1
  rw [e, e1]
  rfl
theorem okDs_pks : ∀ {R : List Pk}, (∀ r ∈ R, PkOk r) → okDs (R.map pkD) = true
  | [], _ => rfl
  | r :: R, h => by
    show (okD (pkD r) && okDs (R.map pkD)) = true
    rw [okD_pk (h r List.mem_cons_self), okDs_pks fun x hx => h x (List.mem_cons_of_mem _ hx)]
    rfl
theorem depth_pk (r : Pk) : PyData.depth (pkD r) ≤ 2 := by
  unfold pkD
  simp only [PyData.depth, PyData.depthAll, depth_strs]
  decide
theorem shaped_pk {r : Pk} (h : PkOk r) : SeqAt.shaped (pkD r) = true := shaped_of (okD_pk h) (by have := depth_pk r; omega)
theorem shaped_pks {R : List Pk} (h : ∀ r ∈ R, PkOk r) : SeqAt.shaped (.list (R.map pkD)) = true := by
  refine shaped_of (d := .list _) (okDs_pks h) ?_
  have := depth_all depth_pk R
  simp only [PyData.depth]
  omega
theorem setsL_up {th S : List Str} {rows : List (List Str)} {z : Str} (up : th.Pairwise ltS) (h : S ∈ setsL th rows z) : (∀ y ∈ S, y ∈ th) ∧ S.Pairwise ltS := by
  obtain ⟨r, _, rfl⟩ := List.mem_map.mp h
  exact ⟨low_sub, low_up up⟩
theorem getD_at {α : Type} {l : List α} {i : Nat} {a d : α} (h : l[i]? = some a) : l.getD i d = a := by
  rw [List.getD_eq_getElem?_getD, h]
  rfl
theorem pick_filter {α : Type} (l : List α) (d : α) (p : α → Bool) : ((List.range l.length).filter fun i => p (l.getD i d)).map (fun i => l.getD i d) = l.filter p := by
  have h := List.filter_map (f := fun i => l.getD i d) (p := p) (l := List.range l.length)
  rw [range_get] at h
  exact h.symm
theorem pairs_any {K : PySem.W.Frag} {H : Hp} : ∀ {zs : List V} {S : List Pk}, zs.length = S.length → (∀ (i : Nat) (v : V), zs[i]? = some v → ∃ (p t : Addr) (r : Pk), v = V.ref p ∧ S[i]? = some r ∧ SqT K H p [V.str r.1, V.ref t] ∧ SqT K H t (r.2.map V.str)) → ∃ ps : List Addr, zs = ps.map V.ref ∧ PairsAt K H ps S
  | [], [], _, _ => ⟨[], rfl, PairsAt.nil⟩
  | [], _ :: _, h, _ => by cases h
  | _ :: _, [], h, _ => by cases h
  | z :: zs, s :: S, hl, h => by
    obtain ⟨p, t, r, rfl, e, a, b⟩ := h 0 z rfl
    obtain rfl : s = r := Option.some.inj e
    obtain ⟨ps, rfl, pa⟩ := pairs_any (zs := zs) (S := S) (Nat.succ.inj hl) fun i v hv => h (i + 1) v hv
    refine ⟨p :: ps, rfl, congrArg Nat.succ pa.1, fun i p' r' h1 h2 => ?_⟩
    cases i with
    | zero =>
      obtain rfl := Option.some.inj h1
      obtain rfl := Option.some.inj h2
      exact ⟨t, a, b⟩
    | succ i => exact pa.2 i p' r' h1 h2
theorem rows_nil_dec (rows : List (List Str)) : decide ((rows.map fun x => PyData.tuple (x.map PyData.str)) = []) = decide (rows = []) := by
  cases rows with
  | nil => rfl
  | cons a r => rfl
def spCrests (K : PySem.W.Frag) : Sp := fun vs H Q _ => ∃ (l : Addr) (ts : List Addr) (th : List Str) (rows : List (List Str)), vs = [.ref l] ∧ RowsAt H l ts rows ∧ RowsOk th rows ∧
  ∀ (D : Addr) (ps : List Addr) (R : List Pk) (H' : Hp), Same H H' → H' D = some (.lst (ps.map V.ref)) → PairsAt K H' ps R → R.length ≤ 1000 → R.Pairwise ltP → (∀ p, p ∈ R ↔ IsPk th rows p) → Q (.ref D) H'
section
variable {P : Program} {w : World} {K : PySem.W.Frag} {mg : Str → Option Value} {base : Heap}
theorem ok_l_crests (T : Tx K mg) : FnOk P w K mg base CX0 10 T.a_l_crests T.fd_l_crests ["_law_rows_here"] (spCrests K) := by
  refine T.F_l_crests.ok sc_l_crests (fun vs H Q E h => ?_) (fun cdv A outer s H vs Q E hr h => ?_)
  · obtain ⟨l, ts, th, rows, rfl, _⟩ := h
    rfl
  · obtain ⟨l, ts, th, rows, rfl, ra, ro, k⟩ := h
    refine ⟨_, (pss_cons (ps_set (i := 1) sc_l_crests.nd rfl (Or.inr rfl) (pe_lst pa_nil))
      (pss_cons (ps_for PassesOwn.never rfl (pi_list (pe_callB cr_sortedU (by rfl) T.n_sorted (by decide +kernel) (pa_cons (pe_ix ix_list (pv 0) pe_int (fun _ _ => rfl)) pa_nil))) (pg_name (i := 2) sc_l_crests.nd rfl (Or.inr rfl))
        (pss_cons (ps_set (i := 3) sc_l_crests.nd rfl (Or.inr rfl) (pe_lc (own := [("_law_row", 7)]) (g := gName 7) (tt := tYes) rfl sc_l_crests.nd (pi_list (pv 0)) (blkOk_by (own := [("_law_row", 7)]) (N := names_l_crests) (sc := defScope st_l_crests) (by decide +kernel)) (fun _ _ _ _ _ => pg_name (i := 7) sc_l_crests.nd rfl (Or.inl rfl)) (fun _ _ _ _ _ => pts_nil) (fun _ _ _ _ _ => (pe_call (ok_l_below T) (hr.mono (by decide)) rfl T.g_l_below T.F_l_below.kp T.b_l_below .nil pass0 (pa_cons (pv 7) (pa_cons (pv 2) pa_nil))))))
      (pss_cons (ps_setLc (i := 4) (own := [("_law_one", 8)]) (g := gName 8) (tt := _) rfl sc_l_crests.nd rfl rfl (sw_true rfl rfl rfl (by decide +kernel)) (pi_list (pv 3)) (blkOk_by (own := [("_law_one", 8)]) (N := names_l_crests) (sc := defScope st_l_crests) (by decide +kernel)) (fun _ _ _ _ _ => pg_name (i := 8) sc_l_crests.nd rfl (Or.inr rfl)) (fun _ _ _ _ _ => pts_one (pt_cmpR (r := rEqD K) (op_eqD hr.units) (pe_lc (wi := iList K (tVar 3)) (own := [("_law_other", 9)]) (g := gName 9) (tt := _) rfl sc_l_crests.nd (pi_list (pv 3)) (blkOk_by (own := [("_law_other", 9)]) (N := names_l_crests) (sc := ({ kind := .function, names := [(".0", .local), ("_law_one", .cell), ("_law_sets", .cell)], isGenerator := false, isCoroutine := false } : Scope)) (by decide +kernel)) (fun _ _ _ _ _ => pg_name (i := 9) sc_l_crests.nd rfl (Or.inl rfl)) (fun _ _ _ _ _ => pts_one (PW.pt (pw_and (pt_cmpR (r := rNeD K) (op_neD hr.units) (pv 9) (pv 8) (nomark _)) (pw_and1 (pt_val (pe_call (ok_l_part T) (hr.mono (by decide)) rfl T.g_l_part T.F_l_part.kp T.b_l_part .nil pass0 (pa_cons (pv 8) (pa_cons (pv 9) pa_nil)))))))) (fun _ _ _ _ _ => (pv 9))) (pe_lst pa_nil) (nomark _))) (fun _ _ _ _ _ => (pv 8)))
      (pss_one (ps_set (i := 1) sc_l_crests.nd rfl (Or.inr rfl) (pe_op op_cat (pv 1) (pe_lc (own := [("_law_one", 8)]) (g := gName 8) (tt := tYes) rfl sc_l_crests.nd (pi_list (pe_callB (cr_sortedX (u2 hr)) (by rfl) T.n_sorted (by decide +kernel) (pa_cons (pv 4) pa_nil))) (blkOk_by (own := [("_law_one", 8)]) (N := names_l_crests) (sc := defScope st_l_crests) (by decide +kernel)) (fun _ _ _ _ _ => pg_name (i := 8) sc_l_crests.nd rfl (Or.inl rfl)) (fun _ _ _ _ _ => pts_nil) (fun _ _ _ _ _ => (pe_tup (pa_cons (pv 2) (pa_cons (pv 8) pa_nil)))))))))))
      (pss_one (ps_ret (pe_lc (own := [("_law_k", 5), ("_law_crest", 6)]) (g := gTup K 2 (gCons (gName 5) (gCons (gName 6) gNil))) (tt := _) rfl sc_l_crests.nd (pi_enum (by rfl) T.n_enumerate (pa_cons (pv 1) pa_nil)) (blkOk_by (own := [("_law_k", 5), ("_law_crest", 6)]) (N := names_l_crests) (sc := defScope st_l_crests) (by decide +kernel)) (fun _ _ _ _ _ => pg_tup rfl (pgs_cons (pg_name (i := 5) sc_l_crests.nd rfl (Or.inl rfl)) (pgs_cons (pg_name (i := 6) sc_l_crests.nd rfl (Or.inl rfl)) pgs_nil))) (fun _ _ _ _ _ => pts_one (pt_cmpR (r := rNotInD K) (op_notInD (u65 hr)) (pv 6) (pe_slice (r := rSlL K) sl_list (pv 1) po_none (po_some (pv 5))) (by rfl))) (fun _ _ _ _ _ => (pv 6))))))), ?_⟩
    have up := ro.up
    have thO := ro.thOk
    have thl := thO.le
    have lr := ro.le
    have lt := ra.2.1
    have pm : ∀ r ∈ rows, th.Perm r := fun r hr => (ro.ok r hr).2
    have l0 : 0 < rows.length := List.length_pos_iff.mpr ro.ne
    obtain ⟨t0, r0, ht0, hr0, ev0, et0⟩ := rowsAt_nth ra l0
    obtain ⟨ror0, pm0⟩ := ro.ok r0 (List.mem_of_getElem? hr0)
    have le0 := ror0.le
    refine ⟨Nat.zero_le _, fun F0 nF0 => ?_⟩
    have s0 := Same.new nF0 (o := .lst [])
    refine ⟨_, rfl, l, _, 0, V.ref t0, rfl, rfl, lst_of (s0 _ _ ra.1), atI_nat (j := 0) ev0, t0, r0, rfl, (et0.same s0).sqt, by omega, fun ys p pp sp np => ?_⟩
    obtain rfl : ys = th := up_one (sorted_lt (pp.nodup_iff.mpr ror0.nd) sp) up fun y => by rw [pp.mem_iff]; exact pm0.symm.mem_iff
    have s1 := s0.trans (Same.new np (o := .lst (ys.map V.str)))
    have ra1 := ra.same s1
    have eF : upd (upd H F0 (.lst [])) p (.lst (ys.map V.str)) F0 = some (.lst []) := by
      rw [upd_ne (ne_of_none upd_same np)]
      exact upd_same
    have eP : upd (upd H F0 (.lst [])) p (.lst (ys.map V.str)) p = some (.lst (ys.map V.str)) := upd_same
    generalize upd (upd H F0 (.lst [])) p (.lst (ys.map V.str)) = H1 at s1 ra1 eF eP ⊢
    refine ⟨p, rfl, ⟨_, lst_of eP⟩, for_list (K := K) (a := p) (xs := ys.map V.str) (fun i σ H' => Same H1 H' ∧ ∃ (F : Addr) (ps : List Addr) (R : List Pk) (v2 v3 v4 : Option V), σ = [some (.ref l), some (.ref F), v2, v3, v4, none, none, none, none, none] ∧ H' F = some (.lst (ps.map V.ref)) ∧ PairsAt K H' ps R ∧ R.Pairwise leP ∧ (∀ q, q ∈ R ↔ q.1 ∈ ys.take i ∧ q.2 ∈ highL (setsL ys rows q.1)) ∧ R.length ≤ i * 24)
      ⟨Same.refl _, F0, [], [], none, none, none, rfl, eF, PairsAt.nil, List.Pairwise.nil, fun q => by simp, Nat.le_refl _⟩ (fun i σ H' _ h => lst_of (h.1 _ _ eP)) ?_ ?_⟩
    · rintro i y σ H2 hy ⟨s2, F, ps, R, v2, v3, v4, rfl, eF2, pa, le, mem, len⟩
      obtain ⟨z, hz, rfl⟩ := str_at hy
      have zth := List.mem_of_getElem? hz
      have ra2 := ra1.same s2
      refine ⟨_, rfl, l, rfl, ⟨_, lst_of ra2.1⟩, fun D nD => lco walk_list (fun i v H' => ∃ (u : Addr) (r : List Str), v = V.ref u ∧ (∃ row, rows[i]? = some row ∧ r = lowS ys row z) ∧ TupO H' u (r.map V.str)) nD (by rw [List.length_map]; omega)
        (fun H' s => lst_of (s _ _ ra2.1)) (fun _ _ _ _ _ y => yat_same y) (fun i v H' H'' ⟨u, r, e1, e2, e3⟩ so => ⟨u, r, e1, e2, e3.sameO so⟩) ?_ ?_⟩
      · rintro j x1 H3 H4 hj s3 y1 Z hZ
        obtain ⟨rfl, hx1⟩ := y1
        obtain ⟨t, ht, rfl⟩ := ref_at hx1
        obtain ⟨row, hrow, et⟩ := rowsAt_at ra2 ht
        obtain ⟨ror, pmr⟩ := ro.ok row (List.mem_of_getElem? hrow)
        have ler := ror.le
        exact ⟨rfl, _, rfl, _, rfl, t, row, z, rfl, et.same s3, pmr.subset zth, by omega, fun b bs H5 s5 hb pb sb => hZ _ _ s5 ⟨b, bs, rfl, ⟨row, hrow, low_of ror.nd pmr up pb sb⟩, hb⟩⟩
      · rintro H3 zs s3 e3 lz hz3
        obtain ⟨us, cs, rfl, lu, hus, hcs⟩ := rows_any (D := D) (Pr := fun i r => ∃ row, rows[i]? = some row ∧ r = lowS ys row z) fun i v hv => let ⟨u, r, a, b, c⟩ := hz3 i v hv; ⟨u, r, a, b, c⟩
        rw [List.length_map, List.length_map] at lz
        have ecs : cs = setsL ys rows z := by
          refine List.ext_getElem? fun j => ?_
          unfold setsL
          rw [List.getElem?_map]
          cases q : cs[j]? with
          | none =>
            rw [List.getElem?_eq_none_iff] at q
            rw [List.getElem?_eq_none (by omega)]
            rfl
          | some r =>
            obtain ⟨row, h1, rfl⟩ := hcs j r q
            rw [h1]
            rfl
        have raS : RowsAt H3 D us cs := ⟨e3, lu, hus⟩
        have csn : ∀ r ∈ cs, ∀ y ∈ r, nameOk y = true := fun r hr y hy => thO.ok y ((setsL_up up (ecs ▸ hr)).1 y hy)
        have csl : ∀ r ∈ cs, r.length ≤ 10 := fun r hr => by
          have h := setsL_up up (ecs ▸ hr)
          have := List.Nodup.length_le_of_subset (h.2.imp fun {a b} q (e : a = b) => ltS_irrefl a (by subst e; exact q)) h.1
          omega
        have lus : us.length ≤ 24 := by omega
        have eus : ∀ j, j < us.length → ∃ u r, us[j]? = some u ∧ cs[j]? = some r := fun j hj => ⟨us[j], cs[j]'(by omega), List.getElem?_eq_getElem hj, List.getElem?_eq_getElem _⟩
        refine ⟨_, rfl, D, rfl, ⟨_, lst_of e3⟩, fun D2 nD2 => lcf walk_list (List.range us.length) (fun i => V.ref (us.getD i 0)) (fun i => decide (cs.filter (fun b => decide (b ≠ cs.getD i []) && partB (cs.getD i []) b) = [])) (by rw [List.length_range, List.length_map]) nD2 (by rw [List.length_map]; omega) (fun H' s => lst_of (s _ _ e3)) (fun _ _ _ _ _ y => yat_same y) (fun j u x1 H4 H5 hu s4 y1 Z N hZ hN => ?_) (fun H4 s4 e4 => ?_)⟩
        · obtain ⟨rfl, hx1⟩ := y1
          obtain ⟨t, ht, rfl⟩ := ref_at hx1
          have eu : u = j := by
            obtain ⟨_, q⟩ := List.getElem?_eq_some_iff.mp hu
            rw [List.getElem_range] at q
            exact q.symm
          subst eu
          obtain ⟨r, hr, et⟩ := rowsAt_at raS ht
          have mr := List.mem_of_getElem? hr
          rw [getD_at ht, getD_at hr] at hZ
          rw [getD_at hr] at hN
          have raS4 := raS.same s4
          refine ⟨rfl, _, rfl, D, rfl, ⟨_, lst_of raS4.1⟩, fun D3 nD3 => lcf walk_list (List.range us.length) (fun i => V.ref (us.getD i 0)) (fun i => decide (cs.getD i [] ≠ r) && partB r (cs.getD i [])) (by rw [List.length_range, List.length_map]) nD3 (by rw [List.length_map]; omega) (fun H' s => lst_of (s _ _ raS4.1)) (fun _ _ _ _ _ y => yat_same y) (fun m u2 x2 H6 H7 hu2 s6 y2 Z2 N2 hZ2 hN2 => ?_) (fun H6 s6 e6 => ?_)⟩
          · obtain ⟨rfl, hx2⟩ := y2
            obtain ⟨t2, ht2, rfl⟩ := ref_at hx2
            have eu : u2 = m := by
              obtain ⟨_, q⟩ := List.getElem?_eq_some_iff.mp hu2
              rw [List.getElem_range] at q
              exact q.symm
            subst eu
            obtain ⟨r2, hr2, et2⟩ := rowsAt_at raS4 ht2
            have mr2 := List.mem_of_getElem? hr2
            rw [getD_at ht2, getD_at hr2] at hZ2
            rw [getD_at hr2] at hN2
            have ea := (et.same s4).same s6
            have eb := et2.same s6
            refine ⟨rfl, ?_⟩
            refine ⟨_, rfl, _, rfl, neT_of eb.sqt ea.sqt (csn _ mr2) (csn _ mr) ?_⟩
            refine ⟨_, rfl, ite2 (fun c => ?_) (fun c => ?_)⟩
            · have c1 : decide (r2 ≠ r) = true := by simpa using c
              have lr1 := csl r mr
              refine ⟨_, rfl, _, rfl, t, t2, r, r2, rfl, ea.sqt, eb.sqt, csn r mr, by omega, fun H8 s8 => ?_⟩
              rw [c1, Bool.true_and] at hZ2 hN2
              exact ⟨_, rfl, ite2 (fun c2 => ⟨_, rfl, hZ2 c2 _ s8⟩) (fun c2 => hN2 (by simpa using c2) _ s8)⟩
            · have c1 : decide (r2 ≠ r) = false := by simpa using c
              rw [c1, Bool.false_and] at hN2
              exact ifF rfl (hN2 rfl _ (Same.refl _))
          · have subf : ((List.range us.length).filter fun i => decide (cs.getD i [] ≠ r) && partB r (cs.getD i [])).Sublist (List.range us.length) := List.filter_sublist
            have rD := rows_pick raS4 (fun a xs h => h.same s6) _ (fun i hi => List.mem_range.mp (subf.subset hi)) e6
            have ep := pick_filter cs [] (fun b => decide (b ≠ r) && partB r b)
            rw [← lu] at ep
            rw [ep] at rD
            generalize cs.filter (fun b => decide (b ≠ r) && partB r b) = fr at rD hZ hN ep
            have fn : ∀ x ∈ fr, ∀ y ∈ x, nameOk y = true := fun x hx => csn x (by rw [← ep] at hx; exact (pick_sub cs [] (by rw [← lu]; exact subf)).subset hx)
            refine ⟨Nat.zero_le _, fun E1 nE1 => ?_⟩
            have s7 := Same.new nE1 (o := .lst [])
            refine ⟨_, _, dp_rowsAt (rD.same s7), .lst (xs := []) (lst_of upd_same) .nil, shaped_names fn, shaped_names (rows := []) (fun _ h => nomatch h), ?_⟩
            rw [eqv_nil, rows_nil_dec]
            exact ⟨_, rfl, ite2 (fun c => ⟨_, rfl, hZ c _ (s6.trans s7)⟩) (fun c => hN (by simpa using c) _ (s6.trans s7))⟩
        · have subf : ((List.range us.length).filter fun i => decide (cs.filter (fun b => decide (b ≠ cs.getD i []) && partB (cs.getD i []) b) = [])).Sublist (List.range us.length) := List.filter_sublist
          have rH := rows_pick raS (fun a xs h => h.same s4) _ (fun i hi => List.mem_range.mp (subf.subset hi)) e4
          have ep := pick_filter cs [] (fun a => decide (cs.filter (fun b => decide (b ≠ a) && partB a b) = []))
          rw [← lu] at ep
          rw [ep] at rH
          have hsub : (highL cs).Sublist cs := List.filter_sublist
          replace rH : RowsAt H4 D2 _ (highL cs) := rH
          generalize (((List.range us.length).filter fun i => decide (cs.filter (fun b => decide (b ≠ cs.getD i []) && partB (cs.getD i []) b) = [])).map fun i => us.getD i 0) = hs at rH
          clear ep subf e4
          have lh := rH.2.1
          have lh24 : hs.length ≤ 24 := by
            have := hsub.length_le
            omega
          refine ⟨_, rfl, _, rfl, D2, hs, rowAt (dn H4), rfl, lst_of rH.1, fun t ht => ?_, ?_, fun ts' q pm' so nq => ?_⟩
          · obtain ⟨r, hr, e⟩ := rowsAt_get rH ht
            rw [rowAt_of (dn_of e)]
            exact e.sqt
          · rcases high_empty cs with h | h
            · refine .inl fun t ht => ?_
              obtain ⟨r, hr, e⟩ := rowsAt_get rH ht
              rw [rowAt_of (dn_of e)]
              exact h r hr
            · refine .inr fun t ht => ?_
              obtain ⟨r, hr, e⟩ := rowsAt_get rH ht
              rw [rowAt_of (dn_of e)]
              exact h r hr
          · have emap : hs.map (rowAt (dn H4)) = highL cs := rowsAt_map rH
            have pmS := pm'.map (rowAt (dn H4))
            rw [emap] at pmS
            have lts := pm'.length_eq
            have s5 := Same.new nq (o := .lst (ts'.map V.ref))
            have eQ : upd H4 q (.lst (ts'.map V.ref)) q = some (.lst (ts'.map V.ref)) := upd_same
            have tat : ∀ t ∈ ts', TupO (upd H4 q (.lst (ts'.map V.ref))) t ((rowAt (dn H4) t).map V.str) := fun t ht => by
              obtain ⟨r, hr, e⟩ := rowsAt_get rH (pm'.subset ht)
              rw [rowAt_of (dn_of e)]
              exact e.same s5
            generalize upd H4 q (.lst (ts'.map V.ref)) = H5 at s5 eQ tat ⊢
            refine ⟨q, rfl, ⟨_, lst_of eQ⟩, fun D3 nD3 => lco walk_list (fun i v H' => ∃ (p t : Addr), v = V.ref p ∧ ts'[i]? = some t ∧ H' p = some (.tup [V.str z, V.ref t])) nD3 (by rw [List.length_map]; omega) (fun H' s => lst_of (s _ _ eQ)) (fun _ _ _ _ _ y => yat_same y) (fun i v H' H'' ⟨p, t, e1, e2, e3⟩ so => ⟨p, t, e1, e2, so _ _ (fun l q => by cases q) e3⟩) ?_ ?_⟩
            · rintro j x1 H6 H7 hj s6 y1 Z hZ
              obtain ⟨rfl, hx1⟩ := y1
              obtain ⟨t, ht, rfl⟩ := ref_at hx1
              refine ⟨rfl, _, rfl, _, rfl, (by show 2 ≤ sizeLine; decide), fun p2 np2 => hZ _ _ (Same.new np2) ⟨p2, t, rfl, ht, upd_same⟩⟩
            · rintro H6 zs6 s6 e6 lz6 hz6
              obtain ⟨ps2, rfl, pa2⟩ := pairs_any (K := K) (H := H6) (S := (ts'.map (rowAt (dn H4))).map fun S => (z, S)) (zs := zs6) (by rw [lz6, List.length_map, List.length_map, List.length_map]) fun i v hv => by
                obtain ⟨p2, t, rfl, h1, h2⟩ := hz6 i v hv
                refine ⟨p2, t, (z, rowAt (dn H4) t), rfl, by rw [List.getElem?_map, List.getElem?_map, h1]; rfl, tup_of h2, ((tat t (List.mem_of_getElem? h1)).same s6).sqt⟩
              have s26 := s3.trans (s4.trans (s5.trans s6))
              have pa6 := pa.same s26
              have eF6 := s26 _ _ eF2
              rw [List.length_map] at lz6
              have hiy : i < ys.length := (List.getElem?_eq_some_iff.mp hz).1
              have lps := pa.1
              have lps2 : ps2.length = ts'.length := by rw [pa2.1, List.length_map, List.length_map]
              have l24 : i * 24 ≤ 240 := by omega
              refine ⟨F, D3, _, _, rfl, rfl, eF6, e6, le_line (by rw [List.length_map, List.length_map]; omega), fun F' nF' => ?_⟩
              have s7 := Same.new nF' (o := .lst (ps.map V.ref ++ ps2.map V.ref))
              have pa7 := (pa6.append pa2).same s7
              have eF7 : upd H6 F' (.lst (ps.map V.ref ++ ps2.map V.ref)) F' = some (.lst ((ps ++ ps2).map V.ref)) := by
                rw [List.map_append]
                exact upd_same
              generalize upd H6 F' (.lst (ps.map V.ref ++ ps2.map V.ref)) = H7 at s7 pa7 eF7 ⊢
              refine ⟨s2.trans (s26.trans s7), F', ps ++ ps2, _, _, _, _, rfl, eF7, pa7, ?_, fun q1 => ?_, ?_⟩
              · refine List.pairwise_append.mpr ⟨le, ?_, fun a ha b hb => ?_⟩
                · rw [List.pairwise_map]
                  exact so.imp fun {a b} h => .inr ⟨rfl, h⟩
                · obtain ⟨S, _, rfl⟩ := List.mem_map.mp hb
                  refine .inl ?_
                  have ma := ((mem a).mp ha).1
                  obtain ⟨j, hj, ej⟩ := List.getElem_of_mem ma
                  rw [List.length_take] at hj
                  rw [List.getElem_take] at ej
                  obtain ⟨_, ez⟩ := List.getElem?_eq_some_iff.mp hz
                  have := List.pairwise_iff_getElem.mp up j i (by omega) hiy (by omega)
                  rw [ej, ez] at this
                  exact this
              · rw [List.mem_append, mem, List.take_add_one, hz, List.mem_append, List.mem_map]
                constructor
                · rintro (h | ⟨S, hS, rfl⟩)
                  · exact ⟨.inl h.1, h.2⟩
                  · refine ⟨.inr (List.mem_singleton.mpr rfl), ?_⟩
                    rw [← ecs]
                    exact pmS.mem_iff.mp hS
                · rintro ⟨h1, h2⟩
                  rcases h1 with h1 | h1
                  · exact .inl ⟨h1, h2⟩
                  · have e1 : q1.1 = z := List.mem_singleton.mp h1
                    rw [e1, ← ecs] at h2
                    exact .inr ⟨q1.2, pmS.mem_iff.mpr h2, Prod.ext e1.symm rfl⟩
              · rw [List.length_append, List.length_map, List.length_map]
                omega
    · rintro σ H2 ⟨s2, F, ps, R, v2, v3, v4, rfl, eF2, pa, le, mem, len⟩
      rw [List.length_map] at mem len
      rw [List.take_length] at mem
      have lps := pa.1
      have rok : ∀ r ∈ R, PkOk r := fun r hr => by
        obtain ⟨h1, h2⟩ := (mem r).mp hr
        refine ⟨thO.ok _ h1, fun y hy => thO.ok y ((setsL_up up (mem_high.mp h2).1).1 y hy)⟩
      refine ⟨_, rfl, F, _, rfl, lst_of eF2, fun D nD => lcf walk_enum (List.range ps.length) (fun i => V.ref (ps.getD i 0)) (fun i => !decide (R.getD i pk0 ∈ R.take i)) (by rw [List.length_map, List.length_range]) nD (by rw [List.length_map]; omega) (fun H' s => lst_of (s _ _ eF2)) (fun _ _ _ _ _ y => ypair_same y) (fun j u x Ha Hb hu sa y Z N hZ hN => ?_) (fun H5 s5 e5 => ?_)⟩
      · obtain ⟨q, y1, y2, rfl, nq, rfl, e1, e2⟩ := y
        cases e1
        obtain ⟨t, ht, rfl⟩ := ref_at e2
        have hj : j < ps.length := (List.getElem?_eq_some_iff.mp ht).1
        have ej : j = u := by
          obtain ⟨_, q⟩ := List.getElem?_eq_some_iff.mp hu
          rw [List.getElem_range] at q
          exact q
        subst ej
        have hr1 : R[j]? = some (R[j]'(by omega)) := List.getElem?_eq_getElem _
        generalize R[j]'(by omega) = r at hr1
        have mr := List.mem_of_getElem? hr1
        rw [getD_at ht, getD_at hr1] at hZ
        rw [getD_at hr1] at hN
        have sq := Same.new nq (o := .tup [.int (j : Nat), .ref t])
        have sb := sa.trans sq
        have paB := pa.same sb
        refine ⟨q, _, rfl, tup_of upd_same, rfl, _, _, rfl, _, _, rfl, rfl, rfl, ?_⟩
        refine ⟨_, rfl, _, rfl, _, rfl, j, rfl, F, _, rfl, lst_of (sb _ _ eF2), fun S nS => ?_⟩
        rw [cut_upto, ← List.map_take]
        have sS := Same.new nS (o := .lst ((ps.take j).map V.ref))
        have paC := paB.same sS
        obtain ⟨t1, a1, a2⟩ := paC.2 j t r ht hr1
        refine ⟨_, _, pair_dp a1 a2, .lst (lst_of upd_same) (paC.take j).dp, shaped_pk (rok r mr), shaped_pks (fun x hx => rok x (List.mem_of_mem_take hx)), ?_⟩
        rw [eqv_pks]
        refine ⟨_, rfl, ite2 (fun c => ?_) (fun c => ?_)⟩
        · exact ⟨_, rfl, hZ c _ sS⟩
        · exact hN (by simpa using c) _ sS
      · have subf : ((List.range ps.length).filter fun i => !decide (R.getD i pk0 ∈ R.take i)).Sublist (List.range ps.length) := List.filter_sublist
        have pD := (pa.same s5).pick _ (fun i hi => List.mem_range.mp (subf.subset hi))
        have e5' : H5 D = some (.lst ((((List.range ps.length).filter fun i => !decide (R.getD i pk0 ∈ R.take i)).map fun i => ps.getD i 0).map V.ref)) := by
          rw [e5, List.map_map]
          rfl
        have eo : (((List.range ps.length).filter fun i => !decide (R.getD i pk0 ∈ R.take i)).map fun i => R.getD i pk0) = onceG pk0 R R.length := by
          unfold onceG
          rw [lps]
          refine congrArg _ (List.filter_congr fun i _ => ?_)
          rw [Bool.eq_iff_iff, Bool.not_eq_true', Bool.not_eq_true', decide_eq_false_iff_not, decide_eq_false_iff_not]
        rw [eo] at pD
        refine k D _ _ H5 (s1.trans (s2.trans s5)) e5' pD (by have := (onceG_sub pk0 R).length_le; omega) (once_lt le) fun q => ?_
        rw [(onceG_ok (d := pk0) (l := R) (Nat.le_refl _)).2 q, List.take_length, mem]
        exact Iff.rfl
end
end MH
namespace MH
open PySem PySem.Spec PyProof.Rows L2
/-! ### the lines of a table, by rows -/
def spLine (K : PySem.W.Frag) : Sp := fun vs H Q _ => ∃ (z : Str) (l D : Addr) (ts ps : List Addr) (rows : List (List Str)) (R : List Pk), vs = [.str z, .ref l, .ref D] ∧ RowsAt H l ts rows ∧ H D = some (.lst (ps.map V.ref)) ∧ PairsAt K H ps R ∧ (∀ r ∈ rows, r ≠ []) ∧ rows.length ≤ 24 ∧ R.length ≤ 1000 ∧ (R.filter fun p => decide (p.1 = z)).length < 25 ∧ z.length ≤ 8 ∧
  ∀ H', Same H H' → Q (.str ((Txt.ljust z 8 ++ Txt.rjust (Str.ofString (toString ((cntFirst rows z : Nat) : Int))) 5) ++ Txt.rjust (Str.ofString (toString (((R.filter fun p => decide (p.1 = z)).length : Nat) : Int))) 5)) H'
theorem pick_len {α : Type} (l : List α) (d : α) (p : α → Bool) : ((List.range l.length).filter fun i => p (l.getD i d)).length = (l.filter p).length := by
  rw [← pick_filter l d p, List.length_map]
theorem cnt_filter (rows : List (List Str)) (z : Str) : (rows.filter fun r => decide (r.headD "" = z)).length = cntFirst rows z := by
  unfold cntFirst
  rw [List.count, List.countP_map, List.countP_eq_length_filter]
  refine congrArg List.length (List.filter_congr fun r _ => ?_)
  show decide (r.headD "" = z) = (r.headD "" == z)
  by_cases e : r.headD "" = z
  · rw [decide_eq_true e]; exact (beq_iff_eq.mpr e).symm
  · rw [decide_eq_false e]; exact (beq_eq_false_iff_ne.mpr e).symm
theorem log_small {n : Nat} (h : n < 25) : ((n : Nat) : Int).natAbs.log2 < 1920 := (by decide +kernel : ∀ n : Fin 25, ((n.val : Nat) : Int).natAbs.log2 < 1920) ⟨n, h⟩
theorem pad5 : PadOk 5 = true := by decide +kernel
theorem pad8 : PadOk 8 = true := by decide +kernel
section
variable {P : Program} {w : World} {K : PySem.W.Frag} {mg : Str → Option Value} {base : Heap}
theorem ok_l_line (T : Tx K mg) : FnOk P w K mg base CX0 9 T.a_l_line T.fd_l_line ["_law_thing", "_law_rows_here", "_law_peaks"] (spLine K) := by
  refine T.F_l_line.ok sc_l_line (fun vs H Q E h => ?_) (fun cdv A outer s H vs Q E hr h => ?_)
  · obtain ⟨z, l, D, ts, ps, rows, R, rfl, _⟩ := h
    rfl
  · obtain ⟨z, l, D, ts, ps, rows, R, rfl, ra, eD, pa, ne, lr, lR, lf, lz, k⟩ := h
    have lt := ra.2.1
    have lp := pa.1
    refine ⟨_, (pss_cons (ps_par (i := 3) (j := 4) rfl sc_l_line.nd rfl rfl (by decide) rfl rfl (pa_cons (pe_callB call_len_seq (by rfl) T.n_len (by decide +kernel) (pa_cons (pe_lc (own := [("_law_row", 5)]) (g := gName 5) (tt := _) rfl sc_l_line.nd (pi_list (pv 1)) (blkOk_by (own := [("_law_row", 5)]) (N := names_l_line) (sc := defScope st_l_line) (by decide +kernel)) (fun _ _ _ _ _ => pg_name (i := 5) sc_l_line.nd rfl (Or.inl rfl)) (fun _ _ _ _ _ => pts_one (pt_cmpR op_eq (pe_ix (r := rIxT K) ix_tup (pv 5) pe_int (fun _ _ => rfl)) (pv 0) (nomark _))) (fun _ _ _ _ _ => (pv 5))) pa_nil)) (pa_cons (pe_callB call_len_seq (by rfl) T.n_len (by decide +kernel) (pa_cons (pe_lc (own := [("_law_one", 6)]) (g := gName 6) (tt := _) rfl sc_l_line.nd (pi_list (pv 2)) (blkOk_by (own := [("_law_one", 6)]) (N := names_l_line) (sc := defScope st_l_line) (by decide +kernel)) (fun _ _ _ _ _ => pg_name (i := 6) sc_l_line.nd rfl (Or.inl rfl)) (fun _ _ _ _ _ => pts_one (pt_cmpR op_eq (pe_ix (r := rIxT K) ix_tup (pv 6) pe_int (fun _ _ => rfl)) (pv 0) (nomark _))) (fun _ _ _ _ _ => (pv 6))) pa_nil)) pa_nil)) (by rfl))
      (pss_one (ps_ret (pe_op op_add_str (pe_op op_add_str (pe_bm PySem.F.plainAttrs_str PySem.F.slot_str_ljust PySem.F.type_str_ljust mt_ljust (pv 0) (pa_cons pe_int pa_nil)) (pe_bm PySem.F.plainAttrs_str PySem.F.slot_str_rjust PySem.F.type_str_rjust mt_rjust (pe_callTy call_str_int (by rfl) T.n_str (by decide +kernel) (pa_cons (pv 3) pa_nil)) (pa_cons pe_int pa_nil))) (pe_bm PySem.F.plainAttrs_str PySem.F.slot_str_rjust PySem.F.type_str_rjust mt_rjust (pe_callTy call_str_int (by rfl) T.n_str (by decide +kernel) (pa_cons (pv 4) pa_nil)) (pa_cons pe_int pa_nil)))))), ?_⟩
    refine ⟨_, rfl, l, rfl, ⟨_, lst_of ra.1⟩, fun D1 nD1 => lcf walk_list (List.range ts.length) (fun i => V.ref (ts.getD i 0)) (fun i => decide ((rows.getD i []).headD "" = z)) (by rw [List.length_range, List.length_map]) nD1 (by rw [List.length_map]; omega) (fun H' s => lst_of (s _ _ ra.1)) (fun _ _ _ _ _ y => yat_same y) (fun j u x1 H1 H2 hu s1 y Z N hZ hN => ?_) (fun H1 s1 e1 => ?_)⟩
    · obtain ⟨rfl, hx⟩ := y
      obtain ⟨t, ht, rfl⟩ := ref_at hx
      have eu : u = j := by
        obtain ⟨_, q⟩ := List.getElem?_eq_some_iff.mp hu
        rw [List.getElem_range] at q
        exact q.symm
      subst eu
      obtain ⟨r, hr1, et⟩ := rowsAt_at ra ht
      rw [getD_at ht, getD_at hr1] at hZ
      rw [getD_at hr1] at hN
      obtain ⟨y, rr, er⟩ := List.exists_cons_of_ne_nil (ne r (List.mem_of_getElem? hr1))
      have ey : r.headD "" = y := by rw [er]; rfl
      rw [ey] at hZ hN
      refine ⟨rfl, _, rfl, t, _, 0, V.str y, rfl, rfl, (et.same s1).sqt, by rw [er]; exact atI_nat (j := 0) rfl, ?_⟩
      refine ⟨_, rfl, rfl, _, rfl, ite2 (fun c => ?_) (fun c => ?_)⟩
      · exact ⟨_, rfl, hZ (decide_eq_true (V.str.inj (of_decide_eq_true c))) _ (Same.refl _)⟩
      · exact hN (decide_eq_false fun e => c (decide_eq_true (congrArg V.str e))) _ (Same.refl _)
    · have l1 : (((List.range ts.length).filter fun i => decide ((rows.getD i []).headD "" = z)).map fun i => V.ref (ts.getD i 0)).length = cntFirst rows z := by
        rw [List.length_map, ← cnt_filter, lt, pick_len rows [] fun r => decide (r.headD "" = z)]
      have c1 := cnt_le rows z
      refine ⟨D1, _, rfl, .inl (lst_of e1), ?_⟩
      rw [l1]
      refine ⟨_, rfl, D, rfl, ⟨_, lst_of (s1 _ _ eD)⟩, fun D2 nD2 => lcf walk_list (List.range ps.length) (fun i => V.ref (ps.getD i 0)) (fun i => decide ((R.getD i pk0).1 = z)) (by rw [List.length_range, List.length_map]) nD2 (by rw [List.length_map]; omega) (fun H' s => lst_of (s _ _ (s1 _ _ eD))) (fun _ _ _ _ _ y => yat_same y) (fun j u x1 H2 H3 hu s2 y Z N hZ hN => ?_) (fun H2 s2 e2 => ?_)⟩
      · obtain ⟨rfl, hx⟩ := y
        obtain ⟨t, ht, rfl⟩ := ref_at hx
        have eu : u = j := by
          obtain ⟨_, q⟩ := List.getElem?_eq_some_iff.mp hu
          rw [List.getElem_range] at q
          exact q.symm
        subst eu
        have hj : u < R.length := by rw [← lp]; exact (List.getElem?_eq_some_iff.mp ht).1
        have hr1 : R[u]? = some (R[u]'hj) := List.getElem?_eq_getElem _
        generalize R[u]'hj = r at hr1
        rw [getD_at ht, getD_at hr1] at hZ
        rw [getD_at hr1] at hN
        obtain ⟨t1, a1, a2⟩ := (pa.same (s1.trans s2)).2 u t r ht hr1
        refine ⟨rfl, _, rfl, t, _, 0, V.str r.1, rfl, rfl, a1, atI_nat (j := 0) rfl, ?_⟩
        refine ⟨_, rfl, rfl, _, rfl, ite2 (fun c => ?_) (fun c => ?_)⟩
        · exact ⟨_, rfl, hZ (decide_eq_true (V.str.inj (of_decide_eq_true c))) _ (Same.refl _)⟩
        · exact hN (decide_eq_false fun e => c (decide_eq_true (congrArg V.str e))) _ (Same.refl _)
      · have l2 : (((List.range ps.length).filter fun i => decide ((R.getD i pk0).1 = z)).map fun i => V.ref (ps.getD i 0)).length = (R.filter fun p => decide (p.1 = z)).length := by
          rw [List.length_map, lp, pick_len R pk0 fun p => decide (p.1 = z)]
        refine ⟨D2, _, rfl, .inl (lst_of e2), ?_⟩
        rw [l2]
        have q1 := len_l8 lz
        have q2 := len_r5 (n := cntFirst rows z) (by omega)
        have q3 := len_r5 lf
        refine ⟨_, _, rfl, _, rfl, rfl, z, 8, rfl, rfl, pad8, _, rfl, _, rfl, log_small (by omega), rfl, _, 5, rfl, rfl, pad5, _, _, rfl, rfl, le_line (by omega), _, rfl, _, rfl, log_small lf, rfl, _, 5, rfl, rfl, pad5, _, _, rfl, rfl, le_line (by rw [size_cat]; omega), ?_⟩
        exact k _ (s1.trans s2)
end
end MH
namespace MH
open PySem PySem.Spec PyProof.Rows L2
theorem shaped_texts {ss : List Str} (h : ∀ z ∈ ss, PyData.strOk z = true) : SeqAt.shaped (.list (ss.map PyData.str)) = true := shaped_of (d := .list (ss.map PyData.str)) (okDs_strs h) (by simp only [PyData.depth, depth_strs]; decide)
theorem strOk_of {x : Str} (h : ∀ c ∈ TL.tl x, c < 0x110000) : PyData.strOk x = true := by
  unfold PyData.strOk
  rw [← Array.all_toList, List.all_eq_true]
  exact fun c hc => decide_eq_true (h c hc)
theorem lt_of_strOk {x : Str} (h : PyData.strOk x = true) : ∀ c ∈ TL.tl x, c < 0x110000 := by
  unfold PyData.strOk at h
  rw [← Array.all_toList, List.all_eq_true] at h
  exact fun c hc => of_decide_eq_true (h c hc)
theorem strOk_joinS {sep : Str} (hs : PyData.strOk sep = true) {row : List Str} (h : ∀ z ∈ row, PyData.strOk z = true) : PyData.strOk (Txt.join sep row) = true := by
  refine strOk_of fun c hc => ?_
  rw [TL.join_eq, TL.tl_join] at hc
  rcases mem_joinL hc with q | ⟨p, hp, q⟩
  · exact lt_of_strOk hs c q
  · obtain ⟨z, hz, rfl⟩ := List.mem_map.mp hp
    exact lt_of_strOk (h z hz) c q
theorem strOk_app {x y : Str} (hx : PyData.strOk x = true) (hy : PyData.strOk y = true) : PyData.strOk (x ++ y) = true := by
  refine strOk_of fun c hc => ?_
  rw [TL.tl_append, List.mem_append] at hc
  rcases hc with hc | hc
  · exact lt_of_strOk hx c hc
  · exact lt_of_strOk hy c hc
theorem strOk_padded {z : Str} {l r : Nat} (h : PyData.strOk z = true) : PyData.strOk (Builtin.Str.padded z l r 32) = true := by
  refine strOk_of fun c hc => ?_
  unfold Builtin.Str.padded TL.tl at hc
  simp only [Array.toList_append, Array.toList_replicate, List.mem_append, List.mem_replicate] at hc
  rcases hc with (⟨_, rfl⟩ | hc) | ⟨_, rfl⟩
  · decide
  · exact lt_of_strOk h c hc
  · decide
theorem strOk_ljust {z : Str} {n : Int} (h : PyData.strOk z = true) : PyData.strOk (Txt.ljust z n) = true := by
  unfold Txt.ljust
  split
  · exact h
  · exact strOk_padded h
theorem strOk_r5 {n : Nat} (h : n < 25) : PyData.strOk (Txt.rjust (Str.ofString (toString (n : Int))) 5) = true :=
  (by decide +kernel : ∀ n : Fin 25, PyData.strOk (Txt.rjust (Str.ofString (toString ((n.val : Nat) : Int))) 5) = true) ⟨n, h⟩
theorem strOk_table {th : List Str} {rows : List (List Str)} (ro : RowsOk th rows) : PyData.strOk (tableS th rows) = true := strOk_joinS (by decide +kernel) fun x hx => by
  obtain ⟨i, hi, rfl⟩ := List.mem_map.mp hx
  have hi := List.mem_range.mp hi
  have lr := ro.le
  have c1 := cnt_le rows (th.getD i "")
  have c2 := crest_len th rows i
  have mz : th.getD i "" ∈ th := by
    rw [List.getD_eq_getElem?_getD, List.getElem?_eq_getElem hi]
    exact List.getElem_mem hi
  unfold lineS
  exact strOk_app (strOk_app (strOk_app (by decide +kernel) (strOk_ljust (nameOk_str (ro.thOk.ok _ mz)))) (strOk_r5 (by omega))) (strOk_r5 (by omega))
def spRight (K : PySem.W.Frag) : Sp := fun vs H Q _ => ∃ p, vs = [.ref p] ∧ Pu H p ∧ ∀ H', SameB p H H' → Q (.bl true) H'
theorem hf_no (rt ts ct : Addr) {m : Str} (h1 : ¬ m = "_crest_masks") (h2 : ¬ m = "_things") (h3 : ¬ m = "_rankings") : (hf rt ts ct).lookup m = none := by
  unfold hf
  rw [lookup_putF, if_neg h1, lookup_putF, if_neg h2, lookup_putF, if_neg h3]
  rfl
section
variable {P : Program} {w : World} {K : PySem.W.Frag} {mg : Str → Option Value} {base : Heap}
theorem g_l_right (T : Tx K mg) : FnG P w K mg base 12 T.a_l_right (spRight K) := by
  refine fun_g T.F_l_right sc_l_right T.b_l_right (fun vs H Q E h => ?_) (fun cdv A outer s H vs Q hg hr h => ?_)
  · obtain ⟨p, rfl, _⟩ := h
    rfl
  · obtain ⟨p, rfl, pu, k⟩ := h
    refine ⟨_, (pss_cons (ps_for PassesOwn.never rfl (pi_range1 (by rfl) T.n_range (pa_cons pe_int pa_nil)) (pg_name (i := 1) sc_l_right.nd rfl (Or.inl rfl))
        (pss_cons (ps_set (i := 2) sc_l_right.nd rfl (Or.inr rfl) (pe_call (ok_l_rows T) (hr.mono (by decide)) rfl T.g_l_rows T.F_l_rows.kp T.b_l_rows .nil pass0 (pa_cons (pv 0) (pa_cons (pe_call (ok_l_things T) (hr.mono (by decide)) rfl T.g_l_things T.F_l_things.kp T.b_l_things .nil pass0 (pa_cons (pv 0) (pa_cons (pe_op op_add pe_int (pe_call (ok_l_draw T) (hr.mono (by decide)) rfl T.g_l_draw T.F_l_draw.kp T.b_l_draw .nil pass0 (pa_cons (pv 0) (pa_cons pe_int pa_nil)))) pa_nil))) (pa_cons pe_int pa_nil)))))
      (pss_cons (ps_asg (pe_tup (pa_cons (pe_call (ok_l_house T) (hr.mono (by decide)) rfl T.g_l_house T.F_l_house.kp T.b_l_house .nil pass0 (pa_cons (pv 2) pa_nil)) (pa_cons (pe_call (ok_l_crests T) (hr.mono (by decide)) rfl T.g_l_crests T.F_l_crests.kp T.b_l_crests .nil pass0 (pa_cons (pv 2) pa_nil)) pa_nil))) (pg_tup rfl (pgs_cons (pg_name (i := 3) sc_l_right.nd rfl (Or.inl rfl)) (pgs_cons (pg_name (i := 4) sc_l_right.nd rfl (Or.inr rfl)) pgs_nil))))
      (pss_cons (ps_set (i := 5) sc_l_right.nd rfl (Or.inl rfl) (pe_join pe_str (pe_lc (own := [("_law_thing", 6)]) (g := gName 6) (tt := tYes) rfl sc_l_right.nd (pi_list (pe_callB cr_sortedU (by rfl) T.n_sorted (by decide +kernel) (pa_cons (pe_ix ix_list (pv 2) pe_int (fun _ _ => rfl)) pa_nil))) (blkOk_by (own := [("_law_thing", 6)]) (N := names_l_right) (sc := defScope st_l_right) (by decide +kernel)) (fun _ _ _ _ _ => pg_name (i := 6) sc_l_right.nd rfl (Or.inl rfl)) (fun _ _ _ _ _ => pts_nil) (fun _ _ _ _ _ => (pe_call (ok_l_line T) (hr.mono (by decide)) rfl T.g_l_line T.F_l_line.kp T.b_l_line .nil pass0 (pa_cons (pv 6) (pa_cons (pv 2) (pa_cons (pv 4) pa_nil))))))))
      (pss_one (ps_if (pt_cmpR (op_neD hr.units) (pe_lst (pa_cons (pe_meth0 (pv 3) T.cl2 T.m_House_table (ok_House_table T) (hr.mono (by decide)) T.b_House_table .nil pass0) (pa_cons (pe_meth0 (pv 3) T.cl2 T.m_House_table (ok_House_table T) (hr.mono (by decide)) T.b_House_table .nil pass0) pa_nil))) (pe_lst (pa_cons (pv 5) (pa_cons (pv 5) pa_nil))) (nomark _))
        (pss_one (ps_ret pe_bl))
        pss_nil))))))
      (pss_one (ps_ret pe_bl))), ?_⟩
    refine ⟨_, rfl, by decide, by decide, for_range (lo := 0) (n := 2) (fun i σ H' => ∃ v1 v2 v3 v4 v5, σ = [some (.ref p), v1, v2, v3, v4, v5, none] ∧ SameB p H H' ∧ Pu H' p) ⟨none, none, none, none, none, rfl, SameB.refl _ _, pu⟩ ?_ ?_⟩
    · rintro i σ H0 hi ⟨v1, v2, v3, v4, v5, rfl, sb0, pu0⟩
      refine ⟨_, rfl, _, rfl, _, rfl, p, 6, rfl, pu0, by decide, by decide, fun d H1 d0 d1 sb1 pu1 => ⟨_, _, rfl, rfl, p, _, rfl, pu1, by omega, by omega, fun ss a H2 nd so mem len sb2 pu2 hA => ?_⟩⟩
      have lss : ss.length ≤ 10 := by omega
      have lss0 : 0 < ss.length := by omega
      have ros : RowOk ss := ⟨(fun e => by rw [e] at lss0; cases lss0), (by omega), nd, fun z hz => pool_ok z (mem z hz)⟩
      refine ⟨p, a, ss, 12, rfl, pu2, hA, ros, so, by decide, by decide, fun l ts rows H3 sb3 pu3 ra ro lr => ?_⟩
      have lr4 : rows.length ≤ 12 := lr
      have lts := ra.2.1
      have up := ro.up
      have pm : ∀ r ∈ rows, ss.Perm r := fun r hr => (ro.ok r hr).2
      have sb03 := sb0.trans (sb1.trans (sb2.trans sb3))
      refine ⟨_, rfl, l, ts, ss, rows, rfl, ra, ro, fun x H4 s4 hs4 => ⟨_, rfl, l, ts, ss, rows, rfl, ra.same s4, ro, fun D ps R H5 s5 eD pa lR upR memR => ?_⟩⟩
      refine ⟨(by show 2 ≤ sizeLine; decide), fun q nq => ⟨q, _, rfl, .inl (.inl upd_same), rfl, ?_⟩⟩
      have s35 := s4.trans (s5.trans (Same.new nq (o := .tup [.ref x, .ref D])))
      have s56 := Same.new nq (o := .tup [.ref x, .ref D])
      have ra6 := ra.same s35
      have hs6 := (hs4.same s5).same s56
      have pa6 := pa.same s56
      have eD6 := s56 _ _ eD
      generalize upd H5 q (.tup [.ref x, .ref D]) = H6 at s35 ra6 hs6 pa6 eD6 s56 ⊢
      obtain ⟨t0, r0, ht0, hr0, ev0, et0⟩ := rowsAt_nth ra6 (List.length_pos_iff.mpr ro.ne)
      obtain ⟨ror0, pm0⟩ := ro.ok r0 (List.mem_of_getElem? hr0)
      have le0 := ror0.le
      refine ⟨_, _, rfl, _, _, rfl, rfl, ⟨_, rfl⟩, _, rfl, l, _, 0, V.ref t0, rfl, rfl, lst_of ra6.1, atI_nat (j := 0) ev0, t0, r0, rfl, et0.sqt, by omega, fun ys p' pp sp np => ?_⟩
      obtain rfl : ys = ss := up_one (sorted_lt (pp.nodup_iff.mpr ror0.nd) sp) up fun y => by rw [pp.mem_iff]; exact pm0.symm.mem_iff
      have s7 := Same.new np (o := .lst (ys.map V.str))
      have eP : upd H6 p' (.lst (ys.map V.str)) p' = some (.lst (ys.map V.str)) := upd_same
      have ra7 := ra6.same s7
      have pa7 := pa6.same s7
      have eD7 := s7 _ _ eD6
      have hs7 := hs6.same s7
      generalize upd H6 p' (.lst (ys.map V.str)) = H7 at s7 eP ra7 pa7 eD7 hs7 ⊢
      refine ⟨p', rfl, ⟨_, lst_of eP⟩, fun D2 nD2 => lcv walk_list (List.range ys.length) (fun i => V.str (lineS ys rows i (ys.getD i ""))) (by rw [List.length_range, List.length_map]) nD2 (by rw [List.length_map]; omega) (fun H' s => lst_of (s _ _ eP)) (fun _ _ _ _ _ y => yat_same y) (fun j u x1 H8 H9 hu s8 y Z hZ => ?_) (fun H8 s8 e8 => ?_)⟩
      · obtain ⟨rfl, hx⟩ := y
        obtain ⟨z, hz, rfl⟩ := str_at hx
        have eu : u = j := by
          obtain ⟨_, q⟩ := List.getElem?_eq_some_iff.mp hu
          rw [List.getElem_range] at q
          exact q.symm
        subst eu
        rw [getD_at hz] at hZ
        have ck := count_pk up pm hz upR memR
        have cl := crest_len ys rows u
        refine ⟨rfl, _, rfl, _, rfl, _, rfl, z, l, D, ts, ps, rows, R, rfl, ra7.same s8, s8 _ _ eD7, pa7.same s8, fun r hr => (ro.ok r hr).1.ne, by omega, lR, by rw [ck]; omega, nameOk_len (ros.ok z (List.mem_of_getElem? hz)), fun H' s' => ?_⟩
        have q := hZ H' s'
        unfold lineS at q
        rw [Str.empty_append, ← ck] at q
        exact q
      · have e8' : (List.range ys.length).map (fun i => V.str (lineS ys rows i (ys.getD i ""))) = ((List.range ys.length).map fun i => lineS ys rows i (ys.getD i "")).map V.str := by
          rw [List.map_map]
          rfl
        rw [e8'] at e8
        refine ⟨"\n", D2, ((List.range ys.length).map fun i => lineS ys rows i (ys.getD i "")), rfl, rfl, .inl (lst_of e8), lines_le ro, ?_⟩
        have hs8 := hs7.same s8
        obtain ⟨dx, _, _, _, _, _, hx8, _⟩ := id hs8
        refine ⟨_, rfl, x, dx, _, rfl, hx8, hf_no _ _ _ (by decide +kernel) (by decide +kernel) (by decide +kernel), x, ys, rows, rfl, hs8, fun H9 s9 => ?_⟩
        have hs9 := hs8.same s9
        obtain ⟨dy, _, _, _, _, _, hx9, _⟩ := id hs9
        refine ⟨_, rfl, x, dy, _, rfl, hx9, hf_no _ _ _ (by decide +kernel) (by decide +kernel) (by decide +kernel), x, ys, rows, rfl, hs9, fun H10 s10 => ?_⟩
        have oks : ∀ z ∈ [tableS ys rows, tableS ys rows], PyData.strOk z = true := fun z hz => by
          have : z = tableS ys rows := by simpa using hz
          rw [this]
          exact strOk_table ro
        refine ⟨(by show 2 ≤ sizeLine; decide), fun E1 nE1 => ⟨_, rfl, _, rfl, (by show 2 ≤ sizeLine; decide), fun E2 nE2 => ⟨.list ([tableS ys rows, tableS ys rows].map PyData.str), .list ([tableS ys rows, tableS ys rows].map PyData.str), .lst (xs := [V.str (tableS ys rows), V.str (tableS ys rows)]) (lst_of ?_) (dp_strs [tableS ys rows, tableS ys rows]), .lst (xs := [V.str (tableS ys rows), V.str (tableS ys rows)]) (lst_of upd_same) (dp_strs [tableS ys rows, tableS ys rows]), shaped_texts oks, shaped_texts oks, ?_⟩⟩⟩
        · rw [upd_ne (ne_of_none upd_same nE2)]
          exact upd_same
        · rw [eqv_strsL, decide_eq_true rfl]
          have s3f := s35.trans (s7.trans (s8.trans (s9.trans (s10.trans ((Same.new nE1 (o := .lst [V.str (tableS ys rows), V.str (tableS ys rows)])).new' nE2 (o := .lst [V.str (tableS ys rows), V.str (tableS ys rows)]))))))
          exact ⟨_, rfl, ifF rfl ⟨_, _, _, _, _, rfl, sb03.trans (SameB.of s3f), pu3.same s3f⟩⟩
    · rintro σ H1 ⟨v1, v2, v3, v4, v5, rfl, sb, _⟩
      exact k _ sb
end
end MH
namespace MH
open PySem PySem.Spec PyProof.Rows L2
theorem _root_.L2.Same.sql {K : PySem.W.Frag} {H H' : Hp} {a : Addr} {xs : List V} (e : Same H H') (h : SqL K H a xs) : SqL K H' a xs := by
  rcases h with (h | ⟨o, h⟩) | h
  · exact .inl (.inl (e _ _ h))
  · exact .inl (.inr ⟨o, e _ _ h⟩)
  · exact .inr h
def spLaw (K : PySem.W.Frag) : Sp := fun vs H Q _ => ∃ (a : Addr) (ns : List Int), vs = [.ref a] ∧ SqL K H a (ns.map V.int) ∧ ns.length ≤ 63 ∧ ∀ H', Q (.bl true) H'
section
variable {P : Program} {w : World} {K : PySem.W.Frag} {mg : Str → Option Value} {base : Heap}
theorem g_law (T : Tx K mg) : FnG P w K mg base 13 T.a_law (spLaw K) := by
  refine fun_g T.F_law sc_law T.b_law (fun vs H Q E h => ?_) (fun cdv A outer s H vs Q hg hr h => ?_)
  · obtain ⟨a, ns, rfl, _⟩ := h
    rfl
  · obtain ⟨a, ns, rfl, hS, hlen, k⟩ := h
    refine ⟨_, (pss_one (ps_ret (pe_callB (cr_all rfl) (by rfl) T.n_all (by decide +kernel) (pa_cons (pe_lc (own := [("_law_spot", 1)]) (g := gName 1) (tt := tYes) rfl sc_law.nd (pi_range1 (by rfl) T.n_range (pa_cons (pe_callB (call_max2 rfl) (by rfl) T.n_max (by decide +kernel) (pa_cons pe_int (pa_cons (pe_callB (call_min2 rfl) (by rfl) T.n_min (by decide +kernel) (pa_cons (pe_callB call_len_seq (by rfl) T.n_len (by decide +kernel) (pa_cons (pv 0) pa_nil)) (pa_cons pe_int pa_nil))) pa_nil))) pa_nil)) (blkOk_by (own := [("_law_spot", 1)]) (N := names_law) (sc := defScope st_law) (by decide +kernel)) (fun _ _ _ _ _ => pg_name (i := 1) sc_law.nd rfl (Or.inl rfl)) (fun _ _ _ _ _ => pts_nil) (fun _ _ _ _ _ => (pe_callg (g_l_right T) hg (hr.mono (by decide)) rfl T.g_l_right T.F_l_right.kp (pa_cons (pe_call (ok_l_purse T) (hr.mono (by decide)) rfl T.g_l_purse T.F_l_purse.kp T.b_l_purse .nil pass0 (pa_cons (pv 0) (pa_cons (pv 1) pa_nil))) pa_nil)))) pa_nil)))), ?_⟩
    have hl : (ns.map V.int).length = ns.length := List.length_map _
    refine ⟨_, rfl, a, _, rfl, .inl hS, _, _, rfl, _, _, rfl, _, rfl, ?_, ?_, fun D nD => lc_range (lo := 0) (n := _) (fun i H' => Same H H' ∧ H' D = some (.lst (List.replicate i (V.bl true)))) ⟨Same.new nD, upd_same⟩ ?_ ?_⟩
    · omega
    · omega
    · rintro i H1 hi ⟨s1, e1⟩
      have hi : i < 100 := by omega
      refine ⟨rfl, ?_⟩
      rw [show (0 : Int) + (i : Int) = ((i : Nat) : Int) from Int.zero_add _]
      refine ⟨_, rfl, _, rfl, a, ns, i, rfl, s1.sql hS, hlen, by omega, fun H2 p s2 np pu => ⟨p, rfl, pu, fun H3 sb => ?_⟩⟩
      have nDp : D ≠ p := fun e => by
        rw [e, np] at e1
        cases e1
      have e3 := sb _ _ nDp (s2 _ _ e1)
      refine ⟨_, e3, lt_line (by rw [List.length_replicate]; omega), fun b o e => ?_, ?_⟩
      · rw [upd_ne (ne_of_none e nD)]
        have h1 := s1 _ _ e
        exact sb _ _ (ne_of_none h1 np) (s2 _ _ h1)
      · rw [upd_same, List.replicate_succ']
    · rintro H1 ⟨s1, e1⟩
      refine ⟨D, List.replicate _ true, rfl, lst_of (by rw [e1, List.map_replicate]), ?_⟩
      have e : ∀ n : Nat, (List.replicate n true).all id = true := fun n => List.all_eq_true.mpr fun b hb => List.eq_of_mem_replicate hb
      rw [e]
      exact k _
end
section
variable {P : Program} {w : World} {K : PySem.W.Frag} {mg : Str → Option Value} {base : Heap}
theorem walk0 {l : PySem.W.OpenLaw} {q : Program} {loose : List Str} {XP : (Str → Option Value) → Heap → Prop} {YP : World → Heap → Prop} {d : DefRec} {K : Params → PySem.W.Frag}
    (hn : l.most = some 63) (hdf : d.params.defaults = []) (hd : d.name = "law") (hY : ∀ (w : World) (h : Heap), YP w h → (K w.params).In h)
    (F : ∀ (w : World) (mg : Str → Option Value) (fa : Addr) (h : Heap), (K w.params).In h → h.Ns mainGlobals mg → mg "law" = some (.ref fa) → ∃ T : Tx (K w.params) mg, T.a_law = fa) : PySem.W.WalkO q loose XP YP l.row.toRowW d [] (fun f vs => PySem.call f vs) := by
  refine walk_g (sp := spLaw) (k := 13) hn (by decide) hdf ⟨rfl, by decide, by decide⟩ hY (fun w mg fa h KX G hmg base hb hg => ?_) fun K H a ns hl hS => ⟨a, ns, rfl, hS, hl, fun _ => rfl⟩
  rw [hd] at hmg
  obtain ⟨T, rfl⟩ := F w mg fa h KX G hmg
  exact g_law T
end
end MH
open PySem PySem.W PySem.Calls PyProof.Rows in
set_option maxRecDepth 100000 in
set_option maxHeartbeats 0 in
theorem PySem.Challenge.cw_menuhouses_k20_tables_of_houses_holds : PySem.Challenge.rw_menuhouses_k20_tables_of_houses.Holds := by
  w_on; o_law
  refine holds_open (r := MHead.R0) (q := MHead.view0) (loose := MHead.loose0) (Xt := MHead.X0) (XP := XL MHead.view0 []) (YP := Hook.says (kHook MHead.K0 MHead.as0 MHead.as0_eq)) MHead.left0 (Hook.of _) (Hook.keeps _) (fun s e => xl_of s (Bool.and_eq_true_iff.mp e).1) XL.keeps (by rfl) (by rfl) (by rfl) (fun s e => recFacts_of (Bool.and_eq_true_iff.mp e).2) (by rfl) (by first | assumption | decide +kernel) (by decide +kernel) ⟨rfl, rfl, rfl, rfl, rfl, by decide +kernel⟩ ?hw ?hc
  case hw => w_witness2
  k_fill
  refine MH.walk0 (l := PySem.Challenge.rw_menuhouses_k20_tables_of_houses) rfl rfl rfl (fun w h Y => PySem.W.kIn_of Y) ?F
  case F =>
    intro w mg fa h KX G hmg
    refine' MH.tx_of KX G hmg ?cg_Ranking ?cp_Ranking ?ch_Ranking ?co_Ranking ?cs_Ranking ?cm_Ranking ?ck_Ranking ?cne_Ranking ?cob_Ranking ?cca_Ranking ?ccb_Ranking ?ccc_Ranking ?cbo_Ranking ?cfm_Ranking ?crd_Ranking ?cty_Ranking ?cga_Ranking ?cn_Ranking__row ?cn_Ranking__things ?cn_Ranking__rankings ?cn_Ranking__crest_masks ?cg_House ?cp_House ?ch_House ?co_House ?cs_House ?cm_House ?ck_House ?cne_House ?cob_House ?cca_House ?ccb_House ?ccc_House ?cbo_House ?cfm_House ?crd_House ?cty_House ?cga_House ?cn_House__row ?cn_House__things ?cn_House__rankings ?cn_House__crest_masks ?a_is_name ?l_is_name ?c_is_name ?k_is_name ?a_is_filled_tuple ?l_is_filled_tuple ?c_is_filled_tuple ?k_is_filled_tuple ?a_is_one_of ?l_is_one_of ?c_is_one_of ?k_is_one_of ?a_first_wrong_in_row ?l_first_wrong_in_row ?c_first_wrong_in_row ?k_first_wrong_in_row ?a_check_row ?l_check_row ?c_check_row ?k_check_row ?a_index_of ?l_index_of ?c_index_of ?k_index_of ?a_mask_of ?l_mask_of ?c_mask_of ?k_mask_of ?a_below_masks ?l_below_masks ?c_below_masks ?k_below_masks ?a_is_covered ?l_is_covered ?c_is_covered ?k_is_covered ?a_greatest ?l_greatest ?c_greatest ?k_greatest ?a_RankingD_initD ?i_RankingD_initD ?l_RankingD_initD ?c_RankingD_initD ?k_RankingD_initD ?a_Ranking_row ?pg_Ranking_row ?pt_Ranking_row ?pr_Ranking_row ?l_Ranking_row ?c_Ranking_row ?k_Ranking_row ?a_Ranking_things ?pg_Ranking_things ?pt_Ranking_things ?pr_Ranking_things ?l_Ranking_things ?c_Ranking_things ?k_Ranking_things ?a_RankingD_strD ?i_RankingD_strD ?l_RankingD_strD ?c_RankingD_strD ?k_RankingD_strD ?a_check_house ?l_check_house ?c_check_house ?k_check_house ?a_check_rankings ?l_check_rankings ?c_check_rankings ?k_check_rankings ?a_are_rows_of_a_house ?l_are_rows_of_a_house ?c_are_rows_of_a_house ?k_are_rows_of_a_house ?a_HouseD_initD ?i_HouseD_initD ?l_HouseD_initD ?c_HouseD_initD ?k_HouseD_initD ?a_House_read ?pr_House_read ?fi_House_read ?l_House_read ?c_House_read ?k_House_read ?a_House_rankings ?pg_House_rankings ?pt_House_rankings ?pr_House_rankings ?l_House_rankings ?c_House_rankings ?k_House_rankings ?a_House_things ?pg_House_things ?pt_House_things ?pr_House_things ?l_House_things ?c_House_things ?k_House_things ?a_House_crest_masks ?pg_House_crest_masks ?pt_House_crest_masks ?pr_House_crest_masks ?l_House_crest_masks ?c_House_crest_masks ?k_House_crest_masks ?a_House_table ?i_House_table ?l_House_table ?c_House_table ?k_House_table ?a_HouseD_lenD ?i_HouseD_lenD ?l_HouseD_lenD ?c_HouseD_lenD ?k_HouseD_lenD ?a_HouseD_strD ?i_HouseD_strD ?l_HouseD_strD ?c_HouseD_strD ?k_HouseD_strD ?a_HouseD_reprD ?i_HouseD_reprD ?l_HouseD_reprD ?c_HouseD_reprD ?k_HouseD_reprD ?a_l_purse ?l_l_purse ?c_l_purse ?k_l_purse ?a_l_draw ?l_l_draw ?c_l_draw ?k_l_draw ?a_l_things ?l_l_things ?c_l_things ?k_l_things ?a_l_order ?l_l_order ?c_l_order ?k_l_order ?a_l_near ?l_l_near ?c_l_near ?k_l_near ?a_l_rows ?l_l_rows ?c_l_rows ?k_l_rows ?a_l_house ?l_l_house ?c_l_house ?k_l_house ?a_l_below ?l_l_below ?c_l_below ?k_l_below ?a_l_part ?l_l_part ?c_l_part ?k_l_part ?a_l_crests ?l_l_crests ?c_l_crests ?k_l_crests ?a_l_line ?l_l_line ?c_l_line ?k_l_line ?a_l_right ?l_l_right ?c_l_right ?k_l_right ?a_law ?l_law ?c_law ?k_law ?v_MOST_THINGS ?v_MOST_PEOPLE ?v_LETTERS ?v_DIGITS ?v_LONGEST_NAME ?z_len ?z_isinstance ?z_all ?z_enumerate ?z_tuple ?z_sorted ?z_abs ?z_int ?z_divmod ?z_range ?z_list ?z_max ?z_min ?z_str ?z_bool ?z_repr ?z_zip
    (case cg_Ranking => k_is)
    (case cp_Ranking => k_is)
    (case ch_Ranking => k_is)
    (case co_Ranking => k_is)
    (case cs_Ranking => k_is)
    (case cm_Ranking => k_is)
    (case ck_Ranking => k_is)
    (case cne_Ranking => k_is)
    (case cob_Ranking => k_is)
    (case cca_Ranking => k_is)
    (case ccb_Ranking => k_is)
    (case ccc_Ranking => k_is)
    (case cbo_Ranking => k_is)
    (case cfm_Ranking => k_is)
    (case crd_Ranking => k_is)
    (case cty_Ranking => k_is)
    (case cga_Ranking => k_is)
    (case cn_Ranking__row => k_is)
    (case cn_Ranking__things => k_is)
    (case cn_Ranking__rankings => k_is)
    (case cn_Ranking__crest_masks => k_is)
    (case cg_House => k_is)
    (case cp_House => k_is)
    (case ch_House => k_is)
    (case co_House => k_is)
    (case cs_House => k_is)
    (case cm_House => k_is)
    (case ck_House => k_is)
    (case cne_House => k_is)
    (case cob_House => k_is)
    (case cca_House => k_is)
    (case ccb_House => k_is)
    (case ccc_House => k_is)
    (case cbo_House => k_is)
    (case cfm_House => k_is)
    (case crd_House => k_is)
    (case cty_House => k_is)
    (case cga_House => k_is)
    (case cn_House__row => k_is)
    (case cn_House__things => k_is)
    (case cn_House__rankings => k_is)
    (case cn_House__crest_masks => k_is)
    (case a_is_name => k_is)
    (case l_is_name => k_is)
    (case c_is_name => k_is)
    (case k_is_name => k_is)
    (case a_is_filled_tuple => k_is)
    (case l_is_filled_tuple => k_is)
    (case c_is_filled_tuple => k_is)
    (case k_is_filled_tuple => k_is)
    (case a_is_one_of => k_is)
    (case l_is_one_of => k_is)
    (case c_is_one_of => k_is)
    (case k_is_one_of => k_is)
    (case a_first_wrong_in_row => k_is)
    (case l_first_wrong_in_row => k_is)
    (case c_first_wrong_in_row => k_is)
    (case k_first_wrong_in_row => k_is)
    (case a_check_row => k_is)
    (case l_check_row => k_is)
    (case c_check_row => k_is)
    (case k_check_row => k_is)
    (case a_index_of => k_is)
    (case l_index_of => k_is)
    (case c_index_of => k_is)
    (case k_index_of => k_is)
    (case a_mask_of => k_is)
    (case l_mask_of => k_is)
    (case c_mask_of => k_is)
    (case k_mask_of => k_is)
    (case a_below_masks => k_is)
    (case l_below_masks => k_is)
    (case c_below_masks => k_is)
    (case k_below_masks => k_is)
    (case a_is_covered => k_is)
    (case l_is_covered => k_is)
    (case c_is_covered => k_is)
    (case k_is_covered => k_is)
    (case a_greatest => k_is)
    (case l_greatest => k_is)
    (case c_greatest => k_is)
    (case k_greatest => k_is)
    (case a_RankingD_initD => k_is)
    (case i_RankingD_initD => k_is)
    (case l_RankingD_initD => k_is)
    (case c_RankingD_initD => k_is)
    (case k_RankingD_initD => k_is)
    (case a_Ranking_row => k_is)
    (case pg_Ranking_row => k_is)
    (case pt_Ranking_row => k_is)
    (case pr_Ranking_row => k_is)
    (case l_Ranking_row => k_is)
    (case c_Ranking_row => k_is)
    (case k_Ranking_row => k_is)
    (case a_Ranking_things => k_is)
    (case pg_Ranking_things => k_is)
    (case pt_Ranking_things => k_is)
    (case pr_Ranking_things => k_is)
    (case l_Ranking_things => k_is)
    (case c_Ranking_things => k_is)
    (case k_Ranking_things => k_is)
    (case a_RankingD_strD => k_is)
    (case i_RankingD_strD => k_is)
    (case l_RankingD_strD => k_is)
    (case c_RankingD_strD => k_is)
    (case k_RankingD_strD => k_is)
    (case a_check_house => k_is)
    (case l_check_house => k_is)
    (case c_check_house => k_is)
    (case k_check_house => k_is)
    (case a_check_rankings => k_is)
    (case l_check_rankings => k_is)
    (case c_check_rankings => k_is)
    (case k_check_rankings => k_is)
    (case a_are_rows_of_a_house => k_is)
    (case l_are_rows_of_a_house => k_is)
    (case c_are_rows_of_a_house => k_is)
    (case k_are_rows_of_a_house => k_is)
    (case a_HouseD_initD => k_is)
    (case i_HouseD_initD => k_is)
    (case l_HouseD_initD => k_is)
    (case c_HouseD_initD => k_is)
    (case k_HouseD_initD => k_is)
    (case a_House_read => k_is)
    (case pr_House_read => k_is)
    (case fi_House_read => k_is)
    (case l_House_read => k_is)
    (case c_House_read => k_is)
    (case k_House_read => k_is)
    (case a_House_rankings => k_is)
    (case pg_House_rankings => k_is)
    (case pt_House_rankings => k_is)
    (case pr_House_rankings => k_is)
    (case l_House_rankings => k_is)
    (case c_House_rankings => k_is)
    (case k_House_rankings => k_is)
    (case a_House_things => k_is)
    (case pg_House_things => k_is)
    (case pt_House_things => k_is)
    (case pr_House_things => k_is)
    (case l_House_things => k_is)
    (case c_House_things => k_is)
    (case k_House_things => k_is)
    (case a_House_crest_masks => k_is)
    (case pg_House_crest_masks => k_is)
    (case pt_House_crest_masks => k_is)
    (case pr_House_crest_masks => k_is)
    (case l_House_crest_masks => k_is)
    (case c_House_crest_masks => k_is)
    (case k_House_crest_masks => k_is)
    (case a_House_table => k_is)
    (case i_House_table => k_is)
    (case l_House_table => k_is)
    (case c_House_table => k_is)
    (case k_House_table => k_is)
    (case a_HouseD_lenD => k_is)
    (case i_HouseD_lenD => k_is)
    (case l_HouseD_lenD => k_is)
    (case c_HouseD_lenD => k_is)
    (case k_HouseD_lenD => k_is)
    (case a_HouseD_strD => k_is)
    (case i_HouseD_strD => k_is)
    (case l_HouseD_strD => k_is)
    (case c_HouseD_strD => k_is)
    (case k_HouseD_strD => k_is)
    (case a_HouseD_reprD => k_is)
    (case i_HouseD_reprD => k_is)
    (case l_HouseD_reprD => k_is)
    (case c_HouseD_reprD => k_is)
    (case k_HouseD_reprD => k_is)
    (case a_l_purse => k_is)
    (case l_l_purse => k_is)
    (case c_l_purse => k_is)
    (case k_l_purse => k_is)
    (case a_l_draw => k_is)
    (case l_l_draw => k_is)
    (case c_l_draw => k_is)
    (case k_l_draw => k_is)
    (case a_l_things => k_is)
    (case l_l_things => k_is)
    (case c_l_things => k_is)
    (case k_l_things => k_is)
    (case a_l_order => k_is)
    (case l_l_order => k_is)
    (case c_l_order => k_is)
    (case k_l_order => k_is)
    (case a_l_near => k_is)
    (case l_l_near => k_is)
    (case c_l_near => k_is)
    (case k_l_near => k_is)
    (case a_l_rows => k_is)
    (case l_l_rows => k_is)
    (case c_l_rows => k_is)
    (case k_l_rows => k_is)
    (case a_l_house => k_is)
    (case l_l_house => k_is)
    (case c_l_house => k_is)
    (case k_l_house => k_is)
    (case a_l_below => k_is)
    (case l_l_below => k_is)
    (case c_l_below => k_is)
    (case k_l_below => k_is)
    (case a_l_part => k_is)
    (case l_l_part => k_is)
    (case c_l_part => k_is)
    (case k_l_part => k_is)
    (case a_l_crests => k_is)
    (case l_l_crests => k_is)
    (case c_l_crests => k_is)
    (case k_l_crests => k_is)
    (case a_l_line => k_is)
    (case l_l_line => k_is)
    (case c_l_line => k_is)
    (case k_l_line => k_is)
    (case a_l_right => k_is)
    (case l_l_right => k_is)
    (case c_l_right => k_is)
    (case k_l_right => k_is)
    (case a_law => k_is)
    (case l_law => k_is)
    (case c_law => k_is)
    (case k_law => k_is)
    (case v_MOST_THINGS => k_is)
    (case v_MOST_PEOPLE => k_is)
    (case v_LETTERS => k_is)
    (case v_DIGITS => k_is)
    (case v_LONGEST_NAME => k_is)
    (case z_len => k_is)
    (case z_isinstance => k_is)
    (case z_all => k_is)
    (case z_enumerate => k_is)
    (case z_tuple => k_is)
    (case z_sorted => k_is)
    (case z_abs => k_is)
    (case z_int => k_is)
    (case z_divmod => k_is)
    (case z_range => k_is)
    (case z_list => k_is)
    (case z_max => k_is)
    (case z_min => k_is)
    (case z_str => k_is)
    (case z_bool => k_is)
    (case z_repr => k_is)
    (case z_zip => k_is)
