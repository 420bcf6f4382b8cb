import PyProof.Rows.All
import Wide.All
import OpenK.AllK
import Wide.FinOn
import KE.KStateDown
import Lean
import HandS.ForMost
import HandS.More
import HandS.Conv
import HandS.Flow
import HandS.Style
import HandS.Strs
import HandS.Codes
import HandS.SetFor
import HandS.TupSets
import HandS.SortRule
import HandS.SortInts
import HandS.TupLe
import HandS.TupAny
import HandS.IsInst
import HandS.RevTup
import HandS.Rev
import HandS.Zip
import KE.GoesEnum
import KE.GoesMore
import KE.GoesZip
import KE.KDictZip
import HandS.Walk
import HandS.SetKeys
import HandS.Defaults
import HandS.Wide
import HandS.Lambda
import HandS.GenOver
import HandS.DictComp
import HandS.AnyAll
import HandS.RevRange
import HandS.Head0
import HandS.Head1
import HandS.Head2
import HandS.HeadEnd
import HandS.HeadHook1
import HandS.HeadHook2
import HandS.HeadHook3
import HandS.HeadHook4
import HandS.EndTab
import HandS.HeadWalk
import KE.DatumOrd
import HandS.TupMul
import KE.KTupSum
import HandS.SetBool
import HandS.ExcIs
import HandS.TryMany
import HandS.TryOnly
import HandS.ExcOwn
import HandS.Exc
import KE.SortData
import KE.SortKeyHeap
import HandS.Deep
import HandS.HotCalls
import HandS.SortKw
import PySem.Challenge.RW_fewforests_k75_beside_and_doubled
set_option Elab.async false
set_option linter.all false
set_option maxRecDepth 100000
set_option maxHeartbeats 0
namespace FF
open PySem PySem.Spec PyProof.Rows L2
/-- which tables of code objects are those of defs with a lambda (told when the text's end is reached) -/
class LT where
  lam : Addr → Bool
end FF
namespace FF
open PySem PySem.Spec PyProof.Rows L2
variable [LT]
/-! ### list(reversed(xs)) -/
section
variable {prog : Program} {w : World} {A : Around} {E : Value → Shared → Prop} {s : Shared}
theorem extRev {itr src : Addr} {its : Array Value} {R : Result → Shared → Prop} (calm : A.handled = none) (S : Addr) (res : Value) (c0 : Nat)
    (hS : s.heap.get? S = some { cls := .type "list", data := .seq #[] c0 }) (hit : s.heap.IsRevIter itr src ((its.size : Int) - 1)) (hl : s.heap.IsList src its) (hne : src ≠ itr) (hSi : S ≠ itr) (hSl : S ≠ src) (hn : its.size ≤ sizeLine)
    (fin : ∀ h' tk acc c, (∀ b o, b ≠ itr → b ≠ S → s.heap.get? b = some o → h'.get? b = some o) → h'.get? S = some { cls := .type "list", dict := none, data := .seq acc c, slots := #[] } →
      ItemsOf (fun i v => its[its.size - 1 - i]? = some v) acc its.size → R (.ok (.ret res)) { s with heap := h', toks := tk }) :
    wpAny (model prog w) A.in1 (Builtin.List.listExtendWith (.ref S) (.ref itr) res)
      (fun f s' => match f with | .done z => R (.ok z) s' | .again c' => c'.quiet = true ∧ codeAny (model prog w) A c' R s') (fun e s' => R (.error e) s') s := by
  have W := (Walks.listRev (prog := prog) (w := w) (A := A.in1) calm itr src hne its).toS
  have hT : s.TypeIs (.ref itr) "list_reverseiterator" := hit.typeIs
  have h1 : Builtin.List.listSameRef (.ref S) (.ref itr) = false := by simp [Builtin.List.listSameRef, hSi]
  unfold Builtin.List.listExtendWith
  refine wpAny_bind (wpAny_typeOf hT ?_)
  rw [if_neg (by rw [h1]; decide)]
  refine wpAny_bind (wpAny_pyIter_revIter hit ?_)
  refine wpAny_bind (wpAny_holding ?_)
  unfold Builtin.List.listLengthHint
  refine wpAny_bind (wpAny_specialOf hT RT.nolen_lri ?_)
  show wpAny _ A.in1 (specialOf (Value.ref itr) (Str.ofString "__length_hint__") >>= _) _ _ _
  refine wpAny_bind (wpAny_specialOf hT RT.hint_lri ?_)
  generalize hid : ("list_reverseiterator.__length_hint__" : String) = hint
  wp_delta
  rw [show splitId hint = some ("list_reverseiterator", "__length_hint__") from by subst hid; decide +kernel]
  subst hid
  refine wpAny_bind (wpAny_isInstance (b := true) hT (by rw [isSubtype_type]; kernel_rfl) ?_)
  refine wpAny_pure ?_
  rw [if_neg (by decide)]
  have e0 : ((its.size : Nat) : Int) - 1 - ((0 : Nat) : Int) = (its.size : Int) - 1 := by omega
  have hSf : S ∉ [itr, src] := by simp only [List.mem_cons, List.not_mem_nil, or_false, not_or]; exact ⟨hSi, hSl⟩
  refine wpAny_pure ⟨plainId_quiet F.plain_extend_loop _, codeAny_extend_loopS W hn S hSf _ its.size 0 _ _ _ rfl (Nat.zero_le _) ⟨Nat.zero_le _, by rw [e0]; exact hit, hl⟩ hS (ItemsOf.nil _) fun s' acc c hm hS' hacc => ?_⟩
  rw [Moved.eq_with hm]
  refine fin s'.heap s'.toks acc c (fun b o hb hb2 e => hm.heap b o (fun z => ?_) e) hS' hacc
  rcases List.mem_cons.mp z with z | z
  · exact hb2 z
  · exact hb (List.mem_singleton.mp z)
theorem initRev {itr src : Addr} {its : Array Value} {R : Result → Shared → Prop} (calm : A.handled = none) (S : Addr)
    (hS : s.heap.get? S = some { cls := .type "list", data := .seq #[] }) (hit : s.heap.IsRevIter itr src ((its.size : Int) - 1)) (hl : s.heap.IsList src its) (hne : src ≠ itr) (hSi : S ≠ itr) (hSl : S ≠ src) (hn : its.size ≤ sizeLine)
    (fin : ∀ h' tk acc c, (∀ b o, b ≠ itr → b ≠ S → s.heap.get? b = some o → h'.get? b = some o) → h'.get? S = some { cls := .type "list", dict := none, data := .seq acc c, slots := #[] } →
      ItemsOf (fun i v => its[its.size - 1 - i]? = some v) acc its.size → R (.ok (.ret .none)) { s with heap := h', toks := tk }) :
    wpAny (model prog w) A.in1 (Builtin.«list.__init__» ⟨[.ref S, .ref itr], []⟩)
      (fun f s' => match f with | .done z => R (.ok z) s' | .again c' => c'.quiet = true ∧ codeAny (model prog w) A c' R s') (fun e s' => R (.error e) s') s := by
  show wpAny _ _ (do let old ← Builtin.List.listItems (.ref S); Builtin.List.listUpdate (.ref S) (fun _ => #[]); letGo old.toList.reverse; Builtin.List.listExtendWith (.ref S) (.ref itr) .none) _ _ s
  refine wpAny_bind ?_
  unfold Builtin.List.listItems
  refine wpAny_bind (wpAny_seqItems hS rfl (wpAny_pure ?_))
  show wpAny _ _ (updateSeq S (fun _ => #[]) >>= fun _ => letGo (#[] : Array Value).toList.reverse >>= fun _ => Builtin.List.listExtendWith (.ref S) (.ref itr) .none) _ _ s
  refine wpAny_bind (wpAny_updateSeq hS rfl ?_)
  have hS2 := Heap.get?_update_self (Obj.mapSeq (fun _ => (#[] : Array Value))) hS rfl
  have oth : ∀ b o, b ≠ S → s.heap.get? b = some o → (s.heap.update S (Obj.mapSeq (fun _ => (#[] : Array Value)))).get? b = some o :=
    fun b o hb e => (Heap.get?_update_other _ _ (Ne.symm hb)).trans e
  refine wpAny_bind (wpAny_letGo ?_)
  obtain ⟨oi, hoi, ri⟩ := hit
  obtain ⟨ol, hol, rl⟩ := hl
  refine extRev (its := its) calm S .none _ hS2 ⟨oi, oth _ _ (Ne.symm hSi) hoi, ri⟩ ⟨ol, oth _ _ (Ne.symm hSl) hol, rl⟩ hne hSi hSl hn fun h' tk acc c hk hS' hacc => ?_
  exact fin h' tk acc c (fun b o hb hb2 e => hk b o hb hb2 (oth b o hb2 e)) hS' hacc
theorem listRev {itr src : Addr} {its : Array Value} {Q : Value → Shared → Prop} (calm : A.handled = none) (hit : s.heap.IsRevIter itr src ((its.size : Int) - 1)) (hl : s.heap.IsList src its) (hne : src ≠ itr) (hn : its.size ≤ sizeLine)
    (fin : ∀ h' tk acc c, (∀ b o, b ≠ itr → s.heap.get? b = some o → h'.get? b = some o) → h'.get? s.heap.objs.size = some { cls := .type "list", dict := none, data := .seq acc c, slots := #[] } →
      ItemsOf (fun i v => its[its.size - 1 - i]? = some v) acc its.size → Q (.ref s.heap.objs.size) { s with heap := h', toks := tk }) :
    wpAny (model prog w) A (call (.type "list") [.ref itr]) Q E s := by
  refine callType_codes (Q₁ := fun obj t => obj = .ref s.heap.objs.size ∧ t = { s with heap := s.heap.push { cls := .type "list", data := .seq #[] } }) F.called_list (F.typeCall_list_1 _) F.entry_list_init
    (code_list_new _ ⟨rfl, rfl⟩) fun obj t ht => ?_
  obtain ⟨rfl, rfl⟩ := ht
  have hS : (s.heap.push { cls := .type "list", data := .seq #[] }).get? s.heap.objs.size = some { cls := .type "list", data := .seq #[] } := Heap.get?_push_size _ rfl
  obtain ⟨oi, hoi, ri⟩ := hit
  obtain ⟨ol, hol, rl⟩ := hl
  refine ⟨⟨_, hS, rfl⟩, F.args_list_init_2 _ _, initRev (its := its) (A := A.in1) calm _ hS ⟨oi, Heap.get?_push_of_some _ hoi, ri⟩ ⟨ol, Heap.get?_push_of_some _ hol, rl⟩ hne (Nat.ne_of_gt (Heap.lt_size hoi)) (Nat.ne_of_gt (Heap.lt_size hol)) hn fun h' tk acc c hk hS' hacc => ?_⟩
  exact ⟨rfl, fin h' tk acc c (fun b o hb e => hk b o hb (Nat.ne_of_lt (Heap.lt_size e)) (Heap.get?_push_of_some _ e)) hS' hacc⟩
end
section
variable {X : Cx}
def tLstRev (K : PySem.W.Frag) (te : TE) : TE := fun σ H Q => te σ H fun v H1 => ∃ (a : Addr) (xs : List V), v = .ref a ∧ SqL K H1 a xs ∧ ∀ q, H1 q = none → Q (.ref q) (upd H1 q (.lst xs.reverse))
theorem pe_listRev {e : Expr} {te : TE} {p p2 pos pos2 : Pos} (hc : X.calm = true) (hg : Gl X "list") (hm : X.mg "list" = none) (hg2 : Gl X "reversed") (hm2 : X.mg "reversed" = none) (he : PE X e te)
    (hs : starEach [e] X.env = (false, eval e X.env) :: starEach [] X.env := by rfl)
    (hs2 : starEach [.Call (.Name "reversed" p2) [e] [] pos2] X.env = (false, eval (.Call (.Name "reversed" p2) [e] [] pos2) X.env) :: starEach [] X.env := by rfl) :
    PE X (.Call (.Name "list" p) [.Call (.Name "reversed" p2) [e] [] pos2] [] pos) (tLstRev X.K te) := by
  refine ⟨fun pins s σ H Q I h => ?_⟩
  refine Call_ (ld_blt I hg hm boot_list (PyProof.Rows.callWith_type1 (args_cons (Call_ (ld_blt I hg2 hm2 PyProof.Rows.boot_reversed (PyProof.Rows.callWith_type1 (args_cons (thn (he.run pins s σ H _ I h) fun u s1 ⟨v, H1, I1, r1, q1⟩ => args_nil ?_) hs) hs rfl))) hs2) hs2 rfl))
  obtain ⟨a, xs, ev, hq, q⟩ := q1
  subst ev
  obtain rfl : u = Value.ref a := r1
  obtain ⟨its, rv, pl, hz⟩ := I1.list hq
  refine call_reversed_list pl.isList (args_nil ?_)
  have I2 : Inv X pins σ H1 { s1 with heap := s1.heap.push (revObj a ((its.toArray.size : Int) - 1)) } := I1.kept (t' := s1.toks) fun b o e => Heap.get?_push_of_some _ e
  obtain ⟨f0, f1, f2, f3, f4, f5⟩ := I1.fpOk (H' := H1) (b := s1.heap.objs.size) (Nat.le_refl _) (I1.hok.fresh (Nat.le_refl _))
  have hl := pl.isList
  obtain ⟨ol, hol, _⟩ := id hl
  have hn : its.toArray.size ≤ sizeLine := by rw [List.size_toArray, ← rv.length]; exact hz
  refine listRev (s := { s1 with heap := s1.heap.push (revObj a ((its.toArray.size : Int) - 1)) }) (I1.ok.hd hc) ⟨_, Heap.get?_push_size _ rfl, rfl, rfl⟩ (hl.push _) (Nat.ne_of_lt (Heap.lt_size hol)) hn fun h' tk acc c hk hS hi => ?_
  have hfr : H1 (s1.heap.push (revObj a ((its.toArray.size : Int) - 1))).objs.size = none := I2.hok.fresh (Nat.le_refl _)
  have J := I2.step (H' := upd H1 (s1.heap.push (revObj a ((its.toArray.size : Int) - 1))).objs.size (.lst xs.reverse)) (h' := h') (g' := s1.gens) (d' := s1.drawn) (t' := tk) (ch := [s1.heap.objs.size])
    (fun b hb => by rw [List.mem_singleton.mp hb]; exact ⟨f3, f1, f4, f5⟩)
    (fun b o _ _ hc e _ => hk b o (fun z => hc (by rw [z]; exact List.mem_singleton.mpr rfl)) e)
    (fun b o _ _ hc e _ => ⟨o.slots, hk b o (fun z => hc (by rw [z]; exact List.mem_singleton.mpr rfl)) e⟩)
    (fun b o _ e n => by rw [upd_ne (Nat.ne_of_lt (Heap.lt_size e))]; exact n)
    (fun b o hc e => ⟨o, hk b o (fun z => hc (by rw [z]; exact List.mem_singleton.mpr rfl)) e⟩)
    (fun b ys e => by rw [upd_ne (ne_of_none e hfr)]; exact e) (fun b o ys e => by rw [upd_ne (ne_of_none e hfr)]; exact e) (fun b ps e => ⟨#[], by rw [upd_ne (ne_of_none e hfr), e]; simp⟩)
    (fun m hm => by
      obtain ⟨o, es, ep, ho, r⟩ := hm
      exact ⟨o, es, ep, hk _ o (Ne.symm f1) ho, r⟩)
    (fun b u e => by
      by_cases hb : b = (s1.heap.push (revObj a ((its.toArray.size : Int) - 1))).objs.size
      · rw [hb, upd_same] at e
        cases e
        rw [hb]
        exact ⟨by rw [List.length_reverse]; exact hz, acc.toList, c, RT.vals_rev rv hi, by rw [Array.toArray_toList]; exact hS⟩
      · rw [upd_ne hb] at e
        refine (I2.hok b u e).stay (fun d v hd q => hk d v ?_ q) (fun d q => by rw [upd_ne (ne_of_none q hfr)]; exact q) fun d ys q => by rw [upd_ne (ne_of_none q hfr)]; exact q
        rcases hd with rfl | hd
        · exact fun z => by rw [z, f0] at e; cases e
        · exact fun z => by rw [z, f0] at hd; cases hd) I2.bare
  exact ⟨.ref _, _, J, rfl, q _ hfr⟩
end
end FF
namespace FF
open PySem PySem.Spec PyProof.Rows L2
variable [LT]
/-! ### len(set(xs)), sorted(set(xs)) of ints -/
def nub (ns : List Int) : List Int := ns.foldl step_dedup []
section
variable {X : Cx}
end
section
variable {P : Program} {w : World} {A : Around} {E : Value → Shared → Prop} {s : Shared}
abbrev emptySet (w : World) : Obj := { cls := .type "set", dict := none, data := .set #[] 0 (.fresh 0 0 (!w.params.followText "set-order")) }
set_option maxHeartbeats 3200000 in
theorem setOfList {l : Addr} {its : Array Value} (ns : List Int) {Q : Value → Shared → Prop} (calm : A.handled = none) (hl : s.heap.IsList l its) (hit : IntsAre its.toList ns) (hb : ns.length + 1 < scanBound)
    (fin : ∀ (h' : Heap) (tk c : Nat), SetR w h' s.heap.objs.size (fun j => decide (j ∈ ns)) c → c ≤ ns.length → (∀ b o, s.heap.get? b = some o → h'.get? b = some o) → Q (.ref s.heap.objs.size) { s with heap := h', toks := tk }) :
    wpAny (model P w) A (call (.type "set") [.ref l]) Q E s := by
  have hsz : its.size = ns.length := by
    have q := IntsAre.length hit
    rw [Array.length_toList] at q
    exact q
  obtain ⟨cm, tl, hmro⟩ := F.called_set.mro
  have hmade := F.called_set.made
  have hsub := F.called_set.sub
  refine wpAny_call (codeAny_of_tree ?_)
  show wpAny _ _ (callAny (.type "set") _) _ _ _
  refine wpAny_pure ⟨Code.quiet_builtin _ (by decide +kernel), codeAny_builtin F.entry_type_call ?_⟩
  rw [Around.under_plain (weight_type_call_type "set" [.ref l] []) rfl]
  have h1 := F.called_set.notType
  have h2 := F.called_set.canCreate
  have hct := F.typeCall_set_1 (.ref l)
  repeat (any_goals (first | assumption | wp_step))
  refine codeAny_mono (code_set_led1 (.ref l) (E := E) (Q₁ := fun obj t => obj = .ref s.heap.objs.size ∧ t = { s with heap := s.heap.push (emptySet w) }) ⟨rfl, rfl⟩) fun r t hr => ?_
  cases r with
  | error e => exact hr
  | ok fl =>
    cases fl with
    | ret obj =>
      obtain ⟨rfl, rfl⟩ := hr
      have hS : (s.heap.push (emptySet w)).get? s.heap.objs.size = some (emptySet w) := Heap.get?_push_size _ rfl
      have hT : Shared.TypeIs { s with heap := s.heap.push (emptySet w) } (.ref s.heap.objs.size) "set" := ⟨_, hS, rfl⟩
      have hli := F.called_set.init.lookup
      have hbi := F.called_set.init.bind (.ref s.heap.objs.size)
      repeat (any_goals (first | assumption | wp_step))
      refine codeAny_mono (codeAny_call_builtin (R := wants (fun r t => r = .none ∧ ∃ h' tk c, t = { s with heap := h', toks := tk } ∧ SetR w h' s.heap.objs.size (fun j => decide (j ∈ ns)) c ∧ c ≤ ns.length ∧
          (∀ b o, s.heap.get? b = some o → h'.get? b = some o)) E) F.called_set.init.plain F.entry_set_init (check_set_init_1 hT ?_)) fun r2 s2 hr2 => ?_
      · obtain ⟨ol, hol, hcl, nl, hdl⟩ := hl
        obtain ⟨ocls, odict, odata, oslots⟩ := ol
        simp only at hcl hdl
        subst hcl; subst hdl
        have hol1 : (s.heap.push (emptySet w)).get? l = some { cls := .type "list", dict := odict, data := .seq its nl, slots := oslots } := Heap.get?_push_of_some _ hol
        have hsls := F.sub_list_set
        have hslf := F.sub_list_frozenset
        have hne : (Value.type "list" == Value.type "dict") = false := by decide
        have hl1 : (s.heap.push (emptySet w)).IsList l its := ⟨_, hol1, rfl, nl, rfl⟩
        unfold Builtin.«set.__init__» noKeywords Builtin.Frozenset.updateFrom
        generalize hPI : pyIter = PI
        wp_walk
        subst hPI
        refine wpAny_pyIter_list hl1 ?_
        refine wpAny_bind (wpAny_runValue ?_)
        have hlS : l < s.heap.objs.size := Heap.lt_size hol
        have hh3 : A.in1.in1.in1.handled = none := by simp [calm]
        have hneI : l ≠ (s.heap.push (emptySet w)).objs.size := by
          rw [Heap.size_push]; exact Nat.ne_of_lt (Nat.lt_succ_of_lt hlS)
        have hSf : s.heap.objs.size ∉ [(s.heap.push (emptySet w)).objs.size, l] := by
          rw [Heap.size_push]; simp only [List.mem_cons, List.mem_singleton, List.not_mem_nil, or_false, not_or]
          exact ⟨Nat.ne_of_lt (Nat.lt_succ_self _), Nat.ne_of_gt hlS⟩
        have hval : ∀ (i : Nat) (v : Value), its[i]? = some v → ∃ k t, ns[i]? = some k ∧ v = .int k t := fun i v hv => by
          have hi : i < ns.length := by rw [← hsz]; exact (Array.getElem?_eq_some_iff.mp hv).1
          obtain ⟨t, e⟩ := PyProof.Rows.IntsAre.int_at hit i v (by rw [Array.getElem?_toList]; exact hv)
          refine ⟨ns[i], t, List.getElem?_eq_getElem hi, ?_⟩
          rw [e, List.getD_eq_getElem?_getD, List.getElem?_eq_getElem hi] <;> rfl
        refine set_update_ints ((Walks.list hh3 _ l hneI its).toS) s.heap.objs.size
          hSf ns hsz hb hval (its.size - 0) 0 _ (by omega) (Nat.zero_le _)
          ⟨⟨_, Heap.get?_push_size _ rfl, rfl, rfl⟩, (hl1.push _)⟩ ?hS0 ?hR
        case hS0 => exact ⟨0, Nat.le_refl 0, setR_new_at (Heap.get?_push_of_some _ hS)⟩
        case hR =>
          intro t' c' hm hc' hS'
          obtain ⟨h', g2, d', tk', os'⟩ := t'
          have eg : g2 = s.gens := hm.gens
          have ed : d' = s.drawn := hm.drawn
          have eo : os' = s.os := hm.os
          subst eg; subst ed; subst eo
          show wpAny _ _ _ _ _ _
          refine wpAny_pure ?_
          show wpAny _ _ (ret Value.none) _ _ _
          rw [hsz] at hc'
          refine wpAny_pure ⟨rfl, h', tk', c', rfl, hS', hc', fun b o e => ?_⟩
          have hb0 : b < s.heap.objs.size := Heap.lt_size e
          have hb2 : b ≠ (s.heap.push (emptySet w)).objs.size := by
            rw [Heap.size_push]; exact Nat.ne_of_lt (Nat.lt_succ_of_lt hb0)
          exact hm.heap b o (by simp only [List.mem_cons, List.mem_singleton, List.not_mem_nil, or_false, not_or]; exact ⟨Nat.ne_of_lt hb0, hb2⟩) (Heap.get?_push_of_some _ (Heap.get?_push_of_some _ e))
      · cases r2 with
        | error e => exact hr2
        | ok fl2 =>
          cases fl2 with
          | ret r =>
            obtain ⟨rfl, h', tk, c', rfl, hS', hc', hk'⟩ := hr2
            repeat (any_goals (first | assumption | wp_step))
            exact fin _ _ _ hS' hc' hk'
          | _ => exact hr2.elim
    | _ => exact hr.elim
end
section
variable {X : Cx}
/-- set(xs), xs a list of ints -/
def rSetL (K : PySem.W.Frag) (w : World) : List V → Hp → VK → Prop := fun xs H Q => ∃ (l : Addr) (ns : List Int), xs = [V.ref l] ∧ SqL K H l (ns.map V.int) ∧ ns.length ≤ 1000 ∧
  ∀ p c, H p = none → c ≤ ns.length → Q (.ref p) (upd H p (SetO w p (fun j => decide (j ∈ ns)) c))
theorem cr_setL (hc : X.calm = true) : CallR X (.type "set") (rSetL X.K X.w) := by
  intro pins s σ H xs us Q I r h
  obtain ⟨l, ns, rfl, hl, hb, q⟩ := h
  rw [Vals.ref1 r]
  obtain ⟨its, rv, pl, hz⟩ := I.list hl
  refine setOfList (P := X.prog) (w := X.w) ns (I.ok.hd hc) pl.isList (by simpa using RZ.intsAre_vals rv) (by unfold scanBound; omega) fun h' tk c R hcn k => ?_
  exact ⟨.ref s.heap.objs.size, _, I.laid (t' := tk) k (Nat.le_refl _) (setO_new R), rfl, q _ c (I.hok.fresh (Nat.le_refl _)) hcn⟩
end
end FF
namespace FF
open PySem PySem.Spec PyProof.Rows L2
variable [LT]
/-! ### generator expressions: a turn, the frame, the protocol -/
section
variable {α : Type}
/-- what a generator expression is made of: its syntax, its frame's context, its iterator, the consumer's objects and what they hold -/
structure GxD (α : Type) where
  Z : Cx
  elt : Expr
  tg : Expr
  iter : Expr
  ifs : List Expr
  scope : Scope
  pos : Pos
  it : Addr
  fp : List Addr
  tn : Nat → Heap → Prop
  J : It
  prot : List Addr
  Acc : α → Heap → Prop
  W : Nat → Nat → α → Hp → Prop
  Yl : α → V → Hp → (α → Hp → Prop) → Prop
  Dn : α → Hp → Prop
  σ0 : L2.St
  vs : List Nat
abbrev GxD.expr (D : GxD α) : Expr := .GeneratorExp D.elt [⟨D.tg, D.iter, D.ifs, 0⟩] D.scope D.pos
abbrev GxD.loop (D : GxD α) : Code := .compLoop D.expr 0 (.ref D.it) .none D.Z.env
abbrev GxD.begin (D : GxD α) : Code := .compStart D.expr 0 (.ref D.it) .none D.Z.env
/-- the frame's invariant, the consumer's objects pinned as they stand -/
def GxD.Inv (D : GxD α) (pins : List (Addr × Obj)) (H : Hp) (s : Shared) : Prop :=
  pins.map (·.1) = D.prot ∧ L2.Inv D.Z pins D.σ0 H s ∧ ∀ b ∈ D.fp, FpOk D.Z pins H b
def GxD.Y (D : GxD α) : Protocol := fun _ s₀ v s kap => ∃ (i : Nat) (a : α) (pins : List (Addr × Obj)) (H : Hp) (x : V) (Nx : α → Hp → Prop),
  RelV x v ∧ s₀.gens.size ≤ s.gens.size ∧ D.Acc a s₀.heap ∧ (∀ p ∈ pins, s₀.heap.get? p.1 = some p.2) ∧ D.Inv pins H s ∧ D.tn (i + 1) s.heap ∧ D.Yl a x H Nx ∧
  ∀ (s' : Shared) (pins' : List (Addr × Obj)) (H' : Hp) (a' : α), D.Inv pins' H' s' → D.tn (i + 1) s'.heap → D.Acc a' s'.heap → Nx a' H' → kap (.send .none) s'
def GxD.P (D : GxD α) : Nat → Shared → Shared → Prop := fun _ s₀ s => ∃ (a : α) (pins : List (Addr × Obj)) (H : Hp),
  D.Acc a s₀.heap ∧ (∀ p ∈ pins, s₀.heap.get? p.1 = some p.2) ∧ D.Inv pins H s ∧ D.Dn a H
abbrev GxD.R (D : GxD α) : GenEnd := fun n s₀ r s => r = .ok .next ∧ D.P n s₀ s
/-- the syntax keeps to its rules; what a turn does -/
structure GxD.Ok (D : GxD α) (g : TG) (tt : TT) (te : TE) : Prop where
  calm : D.Z.calm = true
  xe : D.Z.xe = fun _ _ => False
  co : D.Z.env.scope.isCoroutine = false
  turn : Turn D.Z.prog D.Z.w D.Z.K D.tg D.J D.fp D.it D.tn
  pg : PG D.Z D.tg g
  pt : PTs D.Z D.ifs tt
  pe : PE D.Z D.elt te
  step : ∀ i m a H, D.W i m a H → (D.J.stop i H ∧ D.Dn a H) ∨ (D.J.go i H ∧ ∃ Nx : α → Hp → Prop, (∀ a' H', Nx a' H' → ∃ m', m' < m ∧ D.W (i + 1) m' a' H') ∧
    ∀ x H1, D.J.yld i H x H1 → g x D.σ0 H1 fun σ2 H2 => wipe σ2 D.vs = D.σ0 ∧ tt σ2 H2 fun b H3 => if b = true then te σ2 H3 fun y H4 => D.Yl a y H4 Nx else Nx a H3)
theorem gx_seg {D : GxD α} {g : TG} {tt : TT} {te : TE} (ok : D.Ok g tt te) {A : Around} (hA : A.over D.loop [] = D.Z.A) :
    ∀ (m i n : Nat) (s₀ s : Shared) (pins : List (Addr × Obj)) (H : Hp) (a : α), m < n → s₀.gens.size ≤ s.gens.size → D.Inv pins H s → D.tn i s.heap → D.Acc a s₀.heap → (∀ p ∈ pins, s₀.heap.get? p.1 = some p.2) → D.W i m a H →
      Seg (model D.Z.prog D.Z.w) A D.R D.Y n s₀ D.loop ((model D.Z.prog D.Z.w).den D.loop) [] s := by
  intro m
  induction m using Nat.strongRecOn with
  | _ m ih =>
    intro i n s₀ s pins H a hmn hz GI ht hacc hp0 hw
    obtain ⟨hpr, I, hf⟩ := GI
    have T := ok.turn
    show Seg _ A _ _ _ s₀ _ ((compTurn D.expr 0 (.ref D.it) .none D.Z.env).onRaise (leaving D.Z.env)) [] s
    rw [compTurn_gen, Sem.onRaise_eq_wrap]
    refine seg_bind_wrap (wpAny_standAt ?_)
    rcases ok.step i m a H hw with ⟨stop, dn⟩ | ⟨go, Nx, hNx, st⟩
    · refine seg_bind_wrap ?_
      rw [hA]
      refine thnF (T.done D.Z rfl rfl rfl ok.calm i pins s D.σ0 H (fun _ _ => False) I hf ht stop) fun r t ⟨hr, J⟩ => ?_
      subst hr
      exact seg_end (.ok .next) ⟨rfl, a, pins, H, hacc, hp0, ⟨hpr, J, hf⟩, dn⟩
    · refine seg_bind_wrap ?_
      rw [hA]
      refine GenW.wpAny_gsz hz (thnF (T.item D.Z rfl rfl rfl ok.calm i pins s D.σ0 H (fun _ _ => False) I hf ht go) fun r t ⟨u, hr, h1⟩ z0 => ?_)
      subst hr
      refine seg_bind_wrap ?_
      rw [hA]
      refine GenW.wpAny_gsz z0 (thnF h1 fun _ t1 ⟨x, H1, I1, r1, y1, tn1, n1⟩ z1 => ?_)
      have f1 : ∀ b ∈ D.fp, FpOk D.Z pins H1 b := fun b hb => ⟨n1 b hb, (hf b hb).2⟩
      have I1p := I1.pinned f1 (T.obj _ _ tn1)
      have hpg := ok.pg.run _ t1 D.σ0 H1 x u _ I1p r1 (st x H1 y1)
      rw [ok.xe] at hpg
      refine seg_bind_wrap ?_
      rw [hA]
      refine GenW.wpAny_gsz z1 (thnF hpg fun _ t2 ⟨σ2, H2, I2, w2, q2⟩ z2 => ?_)
      have hpt := ok.pt.run _ t2 σ2 H2 _ I2 q2
      rw [ok.xe] at hpt
      refine seg_bind_wrap ?_
      rw [hA]
      refine GenW.wpAny_gsz z2 (thnF hpt fun b t3 ⟨H3, I3, q3⟩ z3 => ?_)
      -- what holds at the turn's end
      have fin : ∀ {t' : Shared} {H' : Hp}, L2.Inv D.Z (pins ++ pinsAt D.fp t1.heap) σ2 H' t' → D.Inv pins H' t' ∧ D.tn (i + 1) t'.heap := fun {t' H'} J => by
        have pin' : ∀ b ∈ D.fp, ∀ o, t1.heap.get? b = some o → t'.heap.get? b = some o ∧ H' b = none := fun b hb o e =>
          let z := J.pin (b, o) (List.mem_append_right _ (List.mem_append_right _ (mem_pinsAt hb e)))
          ⟨z.1, z.2.1⟩
        have hl : D.σ0.length = σ2.length := by rw [← w2, wipe_length]
        refine ⟨⟨hpr, J.unpinned.weak hl (fun j v e => by rw [← w2] at e; exact (wipe_some e).1), fun b hb => ?_⟩, T.keep _ _ _ tn1 fun b hb o e => (pin' b hb o e).1⟩
        obtain ⟨o, e, _⟩ := T.obj _ _ tn1 b hb
        exact ⟨(pin' b hb o e).2, (hf b hb).2⟩
      cases b with
      | false =>
        simp only [Bool.false_eq_true, if_false] at q3 ⊢
        obtain ⟨m', hm', w'⟩ := hNx a H3 q3
        obtain ⟨G3, tn3⟩ := fin I3
        exact seg_again rfl (ih m' hm' (i + 1) n s₀ t3 pins H3 a (by omega) z3 G3 tn3 hacc hp0 w')
      | true =>
        simp only [if_true] at q3 ⊢
        have hy : ∀ v, yieldOut D.Z.env v = yieldValue v := fun v => by simp only [yieldOut, ok.co, Bool.false_eq_true, if_false]
        simp only [hy]
        rw [Sem.bind_eq_wrap', Sem.bind_eq_wrap', Sem.wrap_wrap, Sem.wrap_wrap]
        have hpe := ok.pe.run _ t3 σ2 H3 _ I3 q3
        rw [ok.xe] at hpe
        refine seg_wrap ?_
        rw [hA]
        refine GenW.wpAny_gsz z3 (thnF hpe fun y t4 ⟨z, H4, I4, r4, q4⟩ z4 => ?_)
        obtain ⟨n', rfl⟩ : ∃ n', n = n' + 1 := ⟨n - 1, by omega⟩
        obtain ⟨G4, tn4⟩ := fin I4
        refine seg_at (seg_yield rfl rfl rfl ⟨i, a, pins, H4, z, Nx, r4, z4, hacc, hp0, G4, tn4, q4, fun t' pins' H' a' G' tn' hacc' nx => ?_⟩)
        obtain ⟨m', hm', w'⟩ := hNx a' H' nx
        exact seg_again rfl (ih m' hm' (i + 1) n' t' t' pins' H' a' (by omega) (Nat.le_refl _) G' tn' hacc' (fun p hp => (G'.2.1.pin p (List.mem_append_right _ hp)).1) w')
theorem gx_begin {D : GxD α} {g : TG} {tt : TT} {te : TE} (ok : D.Ok g tt te) {A : Around} (hA : A.over D.loop [] = D.Z.A) {m n : Nat} {s : Shared} {pins : List (Addr × Obj)} {H : Hp} {a : α}
    (hmn : m < n) (G : D.Inv pins H s) (ht : D.tn 0 s.heap) (hacc : D.Acc a s.heap) (hw : D.W 0 m a H) :
    Seg (model D.Z.prog D.Z.w) A D.R D.Y n s D.begin ((model D.Z.prog D.Z.w).den D.begin) [] s := by
  have loop := gx_seg ok hA m 0 n s s pins H a hmn (Nat.le_refl _) G ht hacc (fun p hp => (G.2.1.pin p (List.mem_append_right _ hp)).1) hw
  show Seg _ A _ _ _ s _ ((compStart D.expr 0 (.ref D.it) .none D.Z.env).onRaise (leaving D.Z.env)) [] s
  unfold compStart
  rw [Sem.onRaise_eq_wrap]
  show Seg _ A _ _ _ s _ ((ask >>= _).wrap _ _ _ _) [] s
  refine seg_bind_wrap (wpAny_askSetting ?_)
  split
  · exact seg_again rfl loop
  · first
      | exact seg_bind_wrap (wpAny_rule (seg_bind_wrap (wpAny_standAt (seg_bind_wrap (ok.turn.self _ 0 s _ _ ht (seg_again rfl loop))))))
      | (refine seg_bind_wrap (wpAny_rule ?_); show Seg _ A _ _ _ s _ ((standAt D.iter.pos >>= _).wrap _ _ _ _) [] s; exact seg_bind_wrap (wpAny_standAt (seg_bind_wrap (ok.turn.self _ 0 s _ _ ht (seg_again rfl loop)))))
end
end FF
namespace FF
open PySem PySem.Spec PyProof.Rows L2
variable [LT]
/-! ### generator expressions: the consumer's side -/
section
variable {α : Type}
theorem Inv.gens {X : Cx} {pins : List (Addr × Obj)} {σ : L2.St} {H : Hp} {s : Shared} (I : L2.Inv X pins σ H s) {G : Array GenState} (hG : AllBare G) : L2.Inv X pins σ H { s with gens := G } :=
  ⟨I.ok, I.os, hG, I.base, I.loc, I.cell, I.free, I.freeC, I.pin, I.hok, I.len⟩
theorem bare_set {G : Array GenState} {g : Nat} {x : GenState} (h : AllBare G) (hx : x.bare = true) : AllBare (G.setIfInBounds g x) := fun y hy => by
  obtain ⟨i, hi, rfl⟩ := Array.mem_iff_getElem.mp hy
  rw [Array.getElem_setIfInBounds (by simpa using hi)]
  split
  · exact hx
  · exact h _ (Array.getElem_mem _)
theorem GxD.Inv.setGen {D : GxD α} {pins : List (Addr × Obj)} {H : Hp} {s : Shared} (G : D.Inv pins H s) {g : Nat} {x : GenState} (hx : x.bare = true) : D.Inv pins H (s.setGen g x) :=
  ⟨G.1, Inv.gens G.2.1 (bare_set G.2.1.bare hx), G.2.2⟩
/-- the generator g at ga sleeps; n: more than it will hand out; a: what the consumer has -/
structure GxD.Live (D : GxD α) (A : Around) (ga : Addr) (g n : Nat) (a : α) (s : Shared) : Prop where
  mem : ga ∈ D.prot
  isg : s.heap.IsGen ga g
  acc : D.Acc a s.heap
  inv : ∃ pins H, D.Inv pins H s
  go : ∃ gs, s.gens[g]? = some gs ∧ gs.Goes (model D.Z.prog D.Z.w) A.in1 D.R D.Y n (.send .none) (s.setGen g .running)
/-- it has handed out x, the heap is H; where the consumer comes to Nx it lives on -/
structure GxD.Told (D : GxD α) (A : Around) (ga : Addr) (g n : Nat) (a : α) (x : V) (H : Hp) (Nx : α → Hp → Prop) (s : Shared) : Prop where
  inv : ∃ pins, D.Inv pins H s
  acc : D.Acc a s.heap
  yl : D.Yl a x H Nx
  isg : s.heap.IsGen ga g
  on : ∃ i, D.tn (i + 1) s.heap ∧ ∀ (s' : Shared) (pins' : List (Addr × Obj)) (H' : Hp) (a' : α), s'.gens = s.gens → s'.heap.IsGen ga g → D.Inv pins' H' s' → D.tn (i + 1) s'.heap → D.Acc a' s'.heap → Nx a' H' → ∃ n', n = n' + 1 ∧ D.Live A ga g n' a' s'
theorem pins_same {D : GxD α} {pins : List (Addr × Obj)} {H : Hp} {s s₀ : Shared} (G : D.Inv pins H s) (h0 : ∀ p ∈ pins, s₀.heap.get? p.1 = some p.2) {b : Addr} (hb : b ∈ D.prot) : s.heap.get? b = s₀.heap.get? b := by
  rw [← G.1] at hb
  obtain ⟨p, hp, e⟩ := List.mem_map.mp hb
  rw [← e, (G.2.1.pin p (List.mem_append_right _ hp)).1, h0 p hp]
theorem GxD.Told.stay {D : GxD α} {A : Around} {ga : Addr} {g n : Nat} {a a' : α} {x : V} {H : Hp} {Nx : α → Hp → Prop} {s : Shared} (T : D.Told A ga g n a x H Nx s) (tk : Nat) (nx : Nx a' H) (ha : D.Acc a' s.heap) :
    ∃ n', n = n' + 1 ∧ D.Live A ga g n' a' { s with toks := tk } := by
  obtain ⟨pins, G⟩ := T.inv
  obtain ⟨i, ht, on⟩ := T.on
  exact on { s with toks := tk } pins H a' rfl T.isg ⟨G.1, G.2.1.tok tk, G.2.2⟩ ht ha nx
/-- the consumer's own object at S is written anew -/
structure GxD.Own (D : GxD α) (ga S : Addr) : Prop where
  prot : D.prot = [ga, S]
  ne : S ≠ ga
  young : D.Z.s_0.heap.objs.size ≤ S
  loc : S ≠ D.Z.env.locals
  cel : ∀ x c, D.Z.env.cells.lookup x = some c → c ≠ S
  pn : D.Z.pn = []
theorem GxD.Told.write {D : GxD α} {A : Around} {ga S : Addr} {g n : Nat} {a a' : α} {x : V} {H : Hp} {Nx : α → Hp → Prop} {s : Shared} (T : D.Told A ga g n a x H Nx s) (hT : ∀ i h h', D.tn i h → (∀ b ∈ D.fp, ∀ o, h.get? b = some o → h'.get? b = some o) → D.tn i h')
    (ow : D.Own ga S) {h' : Heap} {o : Obj} (tk : Nat) (hk : ∀ b u, b ≠ S → s.heap.get? b = some u → h'.get? b = some u) (hS : h'.get? S = some o) (hcell : ∀ v, o.data ≠ .cell v) (nx : Nx a' H) (ha : D.Acc a' h') :
    ∃ n', n = n' + 1 ∧ D.Live A ga g n' a' { s with heap := h', toks := tk } := by
  obtain ⟨pins, hpr, I, hf⟩ := T.inv
  obtain ⟨i, ht, on⟩ := T.on
  obtain ⟨hgp, hSp⟩ : ga ∈ D.prot ∧ S ∈ D.prot := by rw [ow.prot]; simp
  have pinOf : ∀ b ∈ D.prot, ∃ p ∈ pins, p.1 = b := fun b hb => by
    rw [← hpr] at hb
    obtain ⟨p, hp, e⟩ := List.mem_map.mp hb
    exact ⟨p, hp, e⟩
  obtain ⟨pg, hpg, epg⟩ := pinOf ga hgp
  obtain ⟨pS, hpS, epS⟩ := pinOf S hSp
  have nfp : ∀ b ∈ D.fp, b ≠ S := fun b hb z => by
    have := (hf b hb).2.2.2.2.2 pS (List.mem_append_right _ hpS)
    rw [epS] at this
    exact this z.symm
  obtain ⟨gE, gN, gL, gF, gC⟩ := I.pin pg (List.mem_append_right _ hpg)
  obtain ⟨sE, sN, sL, sF, sC⟩ := I.pin pS (List.mem_append_right _ hpS)
  rw [epg] at gE gN gL gF
  rw [epS] at sE sN sL sF
  have I0 : L2.Inv D.Z [] D.σ0 H s := I.pins_of fun p hp => nomatch hp
  have nt : ∀ b u, H b = some u → b ≠ S := fun b u e z => by rw [z, sN] at e; cases e
  have J0 : L2.Inv D.Z [] D.σ0 H { s with heap := h', toks := tk } := by
    refine I0.step (h' := h') (g' := s.gens) (d' := s.drawn) (t' := tk) (ch := [S]) (fun b hb => ?_) (fun b u _ _ hc e _ => hk b u (fun z => hc (by rw [z]; exact List.mem_singleton.mpr rfl)) e)
      (fun b u _ _ hc e _ => ⟨u.slots, hk b u (fun z => hc (by rw [z]; exact List.mem_singleton.mpr rfl)) e⟩) (fun _ _ _ _ e => e) (fun b u hc e => ⟨u, hk b u (fun z => hc (by rw [z]; exact List.mem_singleton.mpr rfl)) e⟩)
      (fun _ _ e => e) (fun _ _ _ e => e) (fun b ps e => ⟨#[], by rw [e]; simp⟩) (fun m hm => ?_) (fun b u e => ?_) I0.bare
    · rw [List.mem_singleton.mp hb]
      refine ⟨.inr ow.young, ow.loc, ow.cel, fun p hp => ?_⟩
      rw [ow.pn] at hp
      exact nomatch hp
    · obtain ⟨ob, es, ep, ho, r⟩ := hm
      exact ⟨ob, es, ep, hk _ ob (Ne.symm ow.loc) ho, r⟩
    · refine (I0.hok b u e).stay (fun c v hc q => hk c v ?_ q) (fun _ q => q) fun _ _ q => q
      rcases hc with rfl | hc
      · exact nt _ _ e
      · exact nt _ _ hc
  have gE' : h'.get? ga = some pg.2 := hk _ _ (Ne.symm ow.ne) gE
  have J : L2.Inv D.Z [(ga, pg.2), (S, o)] D.σ0 H { s with heap := h', toks := tk } := J0.pins_of fun p hp => by
    rcases List.mem_cons.mp hp with rfl | hp
    · exact ⟨gE', gN, gL, gF, gC⟩
    · rw [List.mem_singleton.mp hp]
      exact ⟨hS, sN, sL, sF, hcell⟩
  have isg : h'.IsGen ga g := by
    obtain ⟨ob, nm, qn, ho, r⟩ := T.isg
    exact ⟨ob, nm, qn, hk _ _ (Ne.symm ow.ne) ho, r⟩
  refine on { s with heap := h', toks := tk } _ H a' rfl isg ⟨by rw [ow.prot]; rfl, J, fun b hb => ?_⟩ (hT _ _ _ ht fun b hb u e => hk b u (nfp b hb) e) ha nx
  obtain ⟨f0, f1, f2, f3, f4, f5⟩ := hf b hb
  refine ⟨f0, f1, f2, f3, f4, fun p hp => ?_⟩
  rw [ow.pn] at hp
  rcases List.mem_cons.mp (show p ∈ [(ga, pg.2), (S, o)] from hp) with rfl | hp
  · have := f5 pg (List.mem_append_right _ hpg)
    rw [epg] at this
    exact this
  · rw [List.mem_singleton.mp hp]
    exact (nfp b hb).symm
end
end FF
namespace FF
open PySem PySem.Spec PyProof.Rows L2
variable [LT]
/-! ### generator expressions: made -/
/-- the context of a generator expression's frame -/
abbrev gcx (X : Cx) (A : Around) (N : List Str) (s : Shared) (H : Hp) (cenv : Env) (fp : List Addr) : Cx :=
  { X with A := A, N := N, s_0 := s, H_0 := H, env := cenv, outer := X.stack, stack := cenv :: X.stack, ex := fp, fn := fun _ => false, calm := true, pn := [], xe := fun _ _ => False }
/-- its names: own ones, and those that the def (names XN) has as cells; src tells where these stand there -/
structure GxS (XN : List Str) (xsc scope : Scope) (N : List Str) (src : List (Option Nat)) : Prop where
  kind : scope.kind = .function
  co : scope.isCoroutine = false
  cell : ∀ y ∈ scope.names, y.2 ≠ .cell
  dot : scope.names.lookup (".0" : Str) = some NameKind.local
  free : ∀ y ∈ scope.names, y.2 = .free → xsc.names.lookup y.1 = some .cell ∨ xsc.names.lookup y.1 = some .free
  len : src.length = N.length
  nd : N.Nodup
  cap : ∀ (i j : Nat), src[i]? = some (some j) → ∃ x, N[i]? = some x ∧ XN[j]? = some x ∧ scope.names.lookup x = some .free
def gxσ (src : List (Option Nat)) (σ : L2.St) : L2.St := src.map fun o => match o with
  | some j => (σ[j]?).getD none
  | none => none
/-- a table of code objects of generator expressions stands at P -/
def TabG (H : Hp) (P : Addr) : Prop := ∃ ps : Array Value, H P = some (.tbl ps) ∧ TriplesOk ps.toList ∧ LT.lam P = false
/-- H' is H but for the table at P, which may have grown -/
def Tabd (P : Addr) (H H' : Hp) : Prop := TabG H' P ∧ ∀ b, b ≠ P → H' b = H b
section
variable {X : Cx} {pins : List (Addr × Obj)} {σ : L2.St} {H : Hp} {s : Shared}
theorem gx_inv {scope : Scope} {N : List Str} {src : List (Option Nat)} {fp : List Addr} {A : Around} {code : Value} {h' : Heap} {itv : Value} {gs : GenState} {tk : Nat} {og : Obj} (S : GxS X.N X.env.scope scope N src) (I : L2.Inv X pins σ H s) (hfp : ∀ b ∈ fp, FpOk X pins H b ∧ b < s.heap.objs.size)
    (hA : A.handled = none) (hF : A.frames = some (genEnv scope (cloFrom X.env.cells scope.names []) s.heap.objs.size code builtinsNs X.env :: X.stack)) (hgs : gs.bare = true)
    (hn : h'.Ns s.heap.objs.size (fun y => if y = ".0" then some itv else none)) (hs : Heap.SameBut s.heap.objs.size (s.heap.push { cls := .type "frame", data := .dict #[] }) h') :
    L2.Inv (gcx X A N s H (genEnv scope (cloFrom X.env.cells scope.names []) s.heap.objs.size code builtinsNs X.env) fp) [] (gxσ src σ) H { s with gens := s.gens.push gs, toks := tk, heap := h'.push og } := by
  have hfree : ∀ y ∈ scope.names, y.2 = .free → ∃ c, X.env.cells.lookup y.1 = some c := fun y hy e => by
    rcases S.free y hy e with k | k
    · exact I.ok.has _ (.inl k)
    · exact I.ok.has _ (.inr k)
  have kp : ∀ b o, s.heap.get? b = some o → (h'.push og).get? b = some o := fun b o e => Heap.get?_push_of_some _ (hs.extBut b o (Nat.ne_of_lt (Heap.lt_size e)) (Heap.get?_push_of_some _ e))
  have cm : ∀ {y c}, (cloFrom X.env.cells scope.names []).lookup y = some c → X.env.cells.lookup y = some c ∧ c < s.heap.objs.size := fun {y c} e => by
    rcases cloFrom_mem (PySem.mem_of_lookup e) with z | ⟨h1, h2⟩
    · cases z
    · obtain ⟨c', hc⟩ := hfree _ h1 rfl
      rw [hc] at h2
      have h2 : c = c' := h2
      rw [h2]
      obtain ⟨v, z⟩ := I.cell _ _ hc
      exact ⟨hc, z.lt⟩
  have has : ∀ {y}, scope.names.lookup y = some .free → ∃ c, (cloFrom X.env.cells scope.names []).lookup y = some c := fun {y} hl => by
    obtain ⟨c, e⟩ := mem_lookup (cloFrom_has (cells := X.env.cells) (acc := []) (PySem.mem_of_lookup hl))
    exact ⟨c, e⟩
  have okZ : (gcx X A N s H (genEnv scope (cloFrom X.env.cells scope.names []) s.heap.objs.size code builtinsNs X.env) fp).Ok := by
    refine ⟨I.ok.mod, S.kind, I.ok.glob, rfl, Nat.le_refl _, fun y z c e1 e2 => I.ok.inj y z c (cm e1).1 (cm e2).1, fun y hy => ?_, fun y c z e => (Bool.false_ne_true z).elim, fun _ => hA, hF, .inr ⟨rfl, rfl⟩, fun b hb => ⟨Nat.ne_of_lt (hfp b hb).2, fun y c e => (hfp b hb).1.2.2.2.2.1 y c (cm e).1⟩, I.bs, Nat.le_trans I.ok.bsz I.sz, fun b o e hb => ?_, fun b hb z => ?_, I.stack, I.stkFree⟩
    · rcases hy with hy | hy
      · exact absurd rfl (S.cell _ (PySem.mem_of_lookup hy))
      · exact has hy
    · rcases (hfp b hb).1.2.2.2.1 with z | z
      · exact I.ok.noex b o e z
      · exact absurd (Nat.lt_of_lt_of_le (Heap.lt_size e) (Nat.le_trans I.ok.bsz z)) (Nat.lt_irrefl _)
    · rcases List.mem_cons.mp (I.stkSub b z) with z | z
      · exact (hfp b hb).1.2.1 z
      · exact (hfp b hb).1.2.2.1 z
  refine ⟨okZ, rfl, I.bare.push hgs, Un.kept kp, ⟨_, hn.push og, fun i y v e1 e2 e3 => ?_⟩, fun y c e => ?_, I.hok.fresh (Nat.le_refl _), fun y c e => I.freeC y c (cm e).1, fun p hp => absurd (show p ∈ ([] : List (Addr × Obj)) ++ [] from hp) (by simp), I.hok.kept kp, ?_⟩
  · -- the captured names
    unfold gxσ at e2
    rw [List.getElem?_map] at e2
    cases hsrc : src[i]? with
    | none => rw [hsrc] at e2; cases e2
    | some o =>
      rw [hsrc] at e2
      cases o with
      | none => exact absurd (show (some (none : Option V)) = some (some v) from e2) (by simp)
      | some j =>
        have e2 : some ((σ[j]?).getD none) = some (some v) := e2
        have e4 : σ[j]? = some (some v) := by
          cases hj : σ[j]? with
          | none => rw [hj] at e2; exact absurd (Option.some.inj e2) (by simp)
          | some w => rw [hj] at e2; exact congrArg some (Option.some.inj e2)
        obtain ⟨x, hx1, hx2, hx3⟩ := S.cap i j hsrc
        have exy : x = y := Option.some.inj (hx1.symm.trans e1)
        subst exy
        obtain ⟨m, hm, hl⟩ := I.loc
        have hsc := S.free _ (PySem.mem_of_lookup hx3) rfl
        have hvis : Vis X.env.scope x := hsc.elim (fun k => .inr (.inl k)) (fun k => .inr (.inr k))
        obtain ⟨u, ru, lk⟩ := hl j x v hx2 e4 hvis
        refine ⟨u, ru, .inr ⟨.inr hx3, ?_⟩⟩
        obtain ⟨c, hc⟩ := has hx3
        refine ⟨c, hc, ?_⟩
        rcases lk with ⟨k, _⟩ | ⟨_, c', e', z⟩
        · have k : X.env.scope.names.lookup x = some .local := k
          rcases hsc with q | q <;> rw [show X.env.scope.names.lookup x = _ from q] at k <;> cases k
        · have := (cm hc).1
          rw [e'] at this
          cases this
          exact z.keeps kp
  · obtain ⟨v, z⟩ := I.cell y c (cm e).1
    exact ⟨v, z.keeps kp⟩
  · show (gxσ src σ).length = N.length
    unfold gxσ
    rw [List.length_map]
    exact S.len
end
end FF
namespace FF
open PySem PySem.Spec PyProof.Rows L2
variable [LT]
/-! ### generator expressions: the rules -/
section
variable {X : Cx} {pins : List (Addr × Obj)} {σ : L2.St} {H : Hp} {s : Shared}
abbrev gEnv (X : Cx) (scope : Scope) (C : Addr) (code : Value) : Env := genEnv scope (cloFrom X.env.cells scope.names []) C code builtinsNs X.env
/-- a generator expression has been made, at ga: all that is known of it -/
structure Ready (X : Cx) (pins : List (Addr × Obj)) (σ : L2.St) (elt tg iter : Expr) (ifs : List Expr) (scope : Scope) (gpos : Pos) (N : List Str) (src : List (Option Nat)) (J : It) (G : Hp) (it : Addr) (fp : List Addr) (tn : Nat → Heap → Prop) (code : Value) (s4 t : Shared) (ga : Addr) (g : Nat) : Prop where
  i4 : L2.Inv X pins σ G s4
  fpX : ∀ b ∈ fp, FpOk X pins G b ∧ b < s4.heap.objs.size
  turn : Turn X.prog X.w X.K tg J fp it tn
  tn0 : tn 0 t.heap
  isg : t.heap.IsGen ga g
  gen : t.gens[g]? = some (.fresh (.compStart (.GeneratorExp elt [⟨tg, iter, ifs, 0⟩] scope gpos) 0 (.ref it) .none (gEnv X scope s4.heap.objs.size code)))
  inv : ∀ A : Around, A.handled = none → A.frames = some (gEnv X scope s4.heap.objs.size code :: X.stack) → L2.Inv (gcx X A N s4 G (gEnv X scope s4.heap.objs.size code) fp) [] (gxσ src σ) G t
  new : s4.heap.objs.size < ga
  lt : ga < t.heap.objs.size
theorem gx_make {c P : Addr} {elt tg iter : Expr} {ifs : List Expr} {scope : Scope} {gpos : Pos} {N : List Str} {src : List (Option Nat)} {wi : TI} {k : Nat} {Rr : It → Hp → Prop} {Q' : Value → Shared → Prop} (hr : Room k X.A) (TB : LamX.TabB X.base X.mg c P) (hcode : X.env.code = .ref c)
    (S : GxS X.N X.env.scope scope N src) (hi : PI X tg iter wi) (hs : ∀ v, genFold iter X.env v = pure v) (I : L2.Inv X pins σ H s) (h : wi σ H fun J H1 => TabG H1 P ∧ ∀ H2, Tabd P H1 H2 → Rr J H2)
    (fin : ∀ J G it fp tn code s4 t ga g, Rr J G → Ready X pins σ elt tg iter ifs scope gpos N src J G it fp tn code s4 t ga g → Q' (.ref ga) t) :
    wpAny (model X.prog X.w) X.A (eval (.GeneratorExp elt [⟨tg, iter, ifs, 0⟩] scope gpos) X.env) Q' X.xe s := by
  have hfree : ∀ y ∈ scope.names, y.2 = .free → ∃ c, X.env.cells.lookup y.1 = some c := fun y hy e => by
    rcases S.free y hy e with k | k
    · exact I.ok.has _ (.inl k)
    · exact I.ok.has _ (.inr k)
  refine wpAny_GeneratorExp_make S.co (closure_ok hfree) S.cell S.dot S.kind hr.depth (thn (hi.run pins s σ H _ I h) fun xv s1 hx => thn hx fun itv s2 h2 => ?_) hs
  obtain ⟨it, fp, tn, J, H2, e, I2, T, st2, f2, ⟨ps, hP, htr, hlm⟩, q⟩ := h2
  subst e
  have hPs : s2.heap.get? P = some { cls := .none, data := .fields ps } := I2.hok P _ hP
  have cd : PySem.W.CodeHd s2.heap c P := TB.code.keeps I2.bk
  have sz : ∀ b ∈ fp, b < s2.heap.objs.size := fun b hb => by
    obtain ⟨o, e, _⟩ := T.obj _ _ st2 b hb
    exact Heap.lt_size e
  have nP : ∀ b ∈ fp, b ≠ P := fun b hb z => by
    have := (f2 b hb).1
    rw [z, hP] at this
    cases this
  refine ⟨I2.nolimit, ?_⟩
  -- behind the code object's making: the table is ps ++ more
  have cont : ∀ (code : Value) (h3 : Heap) (tk : Nat) (more : Array Value), Heap.ExtBut P s2.heap h3 → h3.get? P = some { cls := .none, data := .fields (ps ++ more) } → TriplesOk (ps ++ more).toList →
      wpAny (model X.prog X.w) X.A (builtinsFor X.env.globals X.env.builtins) (fun bi s4 =>
        ∀ h', h'.Ns s4.heap.objs.size (fun y => if y = ".0" then some (.ref it) else none) → Heap.SameBut s4.heap.objs.size (s4.heap.push { cls := .type "frame", data := .dict #[] }) h' →
          Q' (.ref h'.objs.size) { s4 with
            gens := s4.gens.push (.fresh (.compStart (.GeneratorExp elt [⟨tg, iter, ifs, 0⟩] scope gpos) 0 (.ref it) .none (genEnv scope (cloFrom X.env.cells scope.names []) s4.heap.objs.size code bi X.env))),
            toks := s4.toks + 1 + 1 + 1,
            heap := h'.push { cls := .type "generator", data := .fields #[.int s4.gens.size 0, .str "<genexpr>" (s4.toks + 1), .str (X.env.qual ++ "<genexpr>") (s4.toks + 1 + 1)] } }) X.xe { s2 with heap := h3, toks := tk } := by
    intro code h3 tk more hx hm htr3
    obtain ⟨bm, ob, e1, e2, e3, e4, e5, e6, e7, e8⟩ := TB.bm
    have J4 : L2.Inv X pins σ (upd H2 P (.tbl (ps ++ more))) { s2 with heap := h3, gens := s2.gens, drawn := s2.drawn, toks := tk } := GxR.inv_tab (more := more) I2 hP (fun b o hb e => hx b o hb e) hm I2.bare
    have f4 : ∀ b ∈ fp, FpOk X pins (upd H2 P (.tbl (ps ++ more))) b ∧ b < h3.objs.size := fun b hb => by
      obtain ⟨o, e, _⟩ := T.obj _ _ st2 b hb
      exact ⟨⟨by rw [upd_ne (nP b hb)]; exact (f2 b hb).1, (f2 b hb).2⟩, Heap.lt_size (hx b o (nP b hb) e)⟩
    have tn3 : tn 0 h3 := T.keep _ _ _ st2 fun b hb o e => hx b o (nP b hb) e
    refine wpAny_builtinsFor (m := X.mg) (by rw [I2.ok.glob]; exact (I2.mod.glob.keeps I2.bk).extBut hx TB.gP) e1 e2 (hx _ _ e4 (I2.bk _ _ e5)) e6 e7 e8 ?_
    intro h' hn' hs'
    have hsz : h'.objs.size = h3.objs.size + 1 := by rw [hs'.1, Heap.size_push]
    have kp : ∀ b o, h3.get? b = some o → h'.get? b = some o := fun b o e => hs'.extBut b o (Nat.ne_of_lt (Heap.lt_size e)) (Heap.get?_push_of_some _ e)
    refine fin J (upd H2 P (.tbl (ps ++ more))) it fp tn code { s2 with heap := h3, toks := tk } _ _ s2.gens.size (q _ ⟨⟨ps ++ more, upd_same, htr3, hlm⟩, fun b hb => upd_ne hb⟩) ⟨J4, f4, T, T.keep _ _ _ tn3 fun b hb o e => Heap.get?_push_of_some _ (kp b o e), ⟨_, _, _, Heap.get?_push_size _ rfl, rfl, rfl, rfl⟩, Array.getElem?_push_size .., fun A hA hF => ?_, by show h3.objs.size < h'.objs.size; omega, by show h'.objs.size < (h'.push _).objs.size; rw [Heap.size_push]; exact Nat.lt_succ_self _⟩
    exact gx_inv (s := { s2 with heap := h3, toks := tk }) S J4 f4 hA hF rfl hn' hs'
  cases hf : codeAmong gpos ps.toList with
  | none =>
    refine wpAny_genexprCodeX hcode (cd.code hPs htr) (cd.tab hPs) hf fun c' h' tk hx hge hlt hco' _ htab' _ => ?_
    obtain ⟨o1, vs, f1, tf, fl, tg', inF, tx, tt, op, _, _, _, _, _, _, _, _, _, htr', _⟩ := hco'
    exact cont _ h' tk _ hx htab'.2 htr'
  | some cv =>
    refine wpAny_genexprCode_hit hcode (cd.code hPs htr) hf ?_
    exact cont cv s2.heap s2.toks #[] (Heap.ExtBut.refl _ _) (by rw [Array.append_empty]; exact hPs) (by rw [Array.append_empty]; exact htr)
theorem over_frames {A : Around} {elt tg iter : Expr} {ifs : List Expr} {scope : Scope} {pos : Pos} {it : Value} {env : Env} {l : List Env} (h : A.frames = some l) :
    (A.over (.compLoop (.GeneratorExp elt [⟨tg, iter, ifs, 0⟩] scope pos) 0 it .none env) []).frames = some (env :: l) := by
  unfold Around.over
  simp only [h]
  rfl
theorem over_room {A : Around} {elt tg iter : Expr} {ifs : List Expr} {scope : Scope} {pos : Pos} {it : Value} {env : Env} {k : Nat} (r : Room (k + 1) A) :
    Room k (A.over (.compLoop (.GeneratorExp elt [⟨tg, iter, ifs, 0⟩] scope pos) 0 it .none env) []) :=
  ⟨r.hd, by have := r.dp; show A.depth + 0 + 1 + 3 * k + 5 < _; omega, by have := r.un; show A.units + 0 + 3 + 16 * k + 200 < _; omega⟩
/-- what the rules ask of a generator expression's parts -/
structure GxP (X : Cx) (k : Nat) (elt tg : Expr) (ifs : List Expr) (scope : Scope) (N : List Str) (g : TG) (tt : TT) (te : TE) : Prop where
  pg : ∀ (A : Around) (s : Shared) (G : Hp) (C : Addr) (code : Value) (fp : List Addr), PG (gcx X A N s G (gEnv X scope C code) fp) tg g
  pt : ∀ (A : Around) (s : Shared) (G : Hp) (C : Addr) (code : Value) (fp : List Addr), Room k A → PTs (gcx X A N s G (gEnv X scope C code) fp) ifs tt
  pe : ∀ (A : Around) (s : Shared) (G : Hp) (C : Addr) (code : Value) (fp : List Addr), Room k A → PE (gcx X A N s G (gEnv X scope C code) fp) elt te
/-- a turn's reading; end_: what is wanted behind the last, yl: at an item -/
def GxT {α : Type} (J : It) (g : TG) (tt : TT) (te : TE) (vs : List Nat) (σ0 : L2.St) (W : Nat → Nat → α → Hp → Prop) (yl : α → V → Hp → (α → Hp → Prop) → Prop) (dn : α → Hp → Prop) : Prop :=
  ∀ i m a H, W i m a H → (J.stop i H ∧ dn a H) ∨ (J.go i H ∧ ∃ Nx : α → Hp → Prop, (∀ a' H', Nx a' H' → ∃ m', m' < m ∧ W (i + 1) m' a' H') ∧
    ∀ x H1, J.yld i H x H1 → g x σ0 H1 fun σ2 H2 => wipe σ2 vs = σ0 ∧ tt σ2 H2 fun b H3 => if b = true then te σ2 H3 fun y H4 => yl a y H4 Nx else Nx a H3)
section
variable {α : Type} {elt tg iter : Expr} {ifs : List Expr} {scope : Scope} {gpos : Pos} {N : List Str} {src : List (Option Nat)} {J : It} {G : Hp} {it : Addr} {fp : List Addr} {tn : Nat → Heap → Prop} {code : Value} {s4 t : Shared} {ga : Addr} {g : Nat} {gg : TG} {tt : TT} {te : TE}
/-- the data of the generator with a consumer -/
abbrev Ready.dat (_ : Ready X pins σ elt tg iter ifs scope gpos N src J G it fp tn code s4 t ga g) (A : Around) (prot : List Addr) (Acc : α → Heap → Prop) (W : Nat → Nat → α → Hp → Prop) (Yl : α → V → Hp → (α → Hp → Prop) → Prop) (Dn : α → Hp → Prop) (vs : List Nat) : GxD α :=
  ⟨gcx X (A.in1.over (.compLoop (.GeneratorExp elt [⟨tg, iter, ifs, 0⟩] scope gpos) 0 (.ref it) .none (gEnv X scope s4.heap.objs.size code)) []) N s4 G (gEnv X scope s4.heap.objs.size code) fp, elt, tg, iter, ifs, scope, gpos, it, fp, tn, J, prot, Acc, W, Yl, Dn, wipe (gxσ src σ) vs, vs⟩
theorem Ready.live (R : Ready X pins σ elt tg iter ifs scope gpos N src J G it fp tn code s4 t ga g) {k : Nat} {A : Around} {C : List (Addr × Obj)} {Acc : α → Heap → Prop} {W : Nat → Nat → α → Hp → Prop} {Yl : α → V → Hp → (α → Hp → Prop) → Prop} {Dn : α → Hp → Prop} {vs : List Nat} {a : α} {m : Nat} {h' : Heap} {tk : Nat}
    (S : GxS X.N X.env.scope scope N src) (hp : GxP X k elt tg ifs scope N gg tt te) (room : Room (k + 1) A.in1) (hA : A.in1.frames = some X.stack) (ht : GxT J gg tt te vs (wipe (gxσ src σ) vs) W Yl Dn)
    (hk : ∀ b o, t.heap.get? b = some o → h'.get? b = some o) (hC : ∀ p ∈ C, h'.get? p.1 = some p.2 ∧ t.heap.objs.size ≤ p.1 ∧ ∀ v, p.2.data ≠ .cell v) (hacc : Acc a h') (hw : W 0 m a G) :
    (R.dat A (ga :: C.map (·.1)) Acc W Yl Dn vs).Ok gg tt te ∧ (R.dat A (ga :: C.map (·.1)) Acc W Yl Dn vs).Live A ga g (m + 1) a { t with heap := h', toks := tk } := by
  have hZ := R.inv (A.in1.over (.compLoop (.GeneratorExp elt [⟨tg, iter, ifs, 0⟩] scope gpos) 0 (.ref it) .none (gEnv X scope s4.heap.objs.size code)) []) room.hd (over_frames hA)
  have hZ2 : L2.Inv (gcx X (A.in1.over (.compLoop (.GeneratorExp elt [⟨tg, iter, ifs, 0⟩] scope gpos) 0 (.ref it) .none (gEnv X scope s4.heap.objs.size code)) []) N s4 G (gEnv X scope s4.heap.objs.size code) fp) [] (wipe (gxσ src σ) vs) G { t with heap := h', toks := tk } :=
    (hZ.weak (wipe_length _ _) fun j v e => (wipe_some e).1).kept (t' := tk) hk
  obtain ⟨og, nm, qn, hog, hcls, hdat, hsl⟩ := id R.isg
  have young : ∀ b, s4.heap.objs.size < b → G b = none ∧ b ≠ s4.heap.objs.size ∧ b ∉ frs X.stack := fun b hb => ⟨R.i4.hok.fresh (Nat.le_of_lt hb), Nat.ne_of_gt hb, fun z => by
    rcases List.mem_cons.mp (R.i4.stkSub b z) with z | z
    · rw [z] at hb
      exact absurd (Nat.lt_trans R.i4.lt hb) (Nat.lt_irrefl _)
    · exact R.i4.nofs (Nat.le_of_lt hb) z⟩
  have cY : ∀ p ∈ C, s4.heap.objs.size < p.1 := fun p hp' => Nat.lt_of_lt_of_le (Nat.lt_trans R.new R.lt) (hC p hp').2.1
  have ok : (R.dat A (ga :: C.map (·.1)) Acc W Yl Dn vs).Ok gg tt te := ⟨rfl, rfl, S.co, R.turn, hp.pg .., hp.pt _ _ _ _ _ _ (over_room room), hp.pe _ _ _ _ _ _ (over_room room), ht⟩
  have GI : (R.dat A (ga :: C.map (·.1)) Acc W Yl Dn vs).Inv ((ga, og) :: C) G { t with heap := h', toks := tk } := by
    refine ⟨rfl, hZ2.pins_of fun p hp' => ?_, fun b hb => ?_⟩
    · rcases List.mem_cons.mp hp' with rfl | hp'
      · obtain ⟨y1, y2, y3⟩ := young ga R.new
        exact ⟨hk _ _ hog, y1, y2, y3, fun v z => by rw [hdat] at z; cases z⟩
      · obtain ⟨y1, y2, y3⟩ := young p.1 (cY p hp')
        exact ⟨(hC p hp').1, y1, y2, y3, (hC p hp').2.2⟩
    · refine ⟨(R.fpX b hb).1.1, Nat.ne_of_lt (R.fpX b hb).2, hZ.ok.exfs b hb, .inl hb, (hZ.ok.exf b hb).2, fun p hp' z => ?_⟩
      have hb2 := (R.fpX b hb).2
      rcases List.mem_cons.mp (show p ∈ (ga, og) :: C from hp') with e | hp'
      · rw [← z, e] at hb2
        exact absurd (Nat.lt_trans R.new hb2) (Nat.lt_irrefl _)
      · rw [← z] at hb2
        exact absurd (Nat.lt_trans (cY p hp') hb2) (Nat.lt_irrefl _)
  refine ⟨ok, List.mem_cons_self, ⟨og, nm, qn, hk _ _ hog, hcls, hdat, hsl⟩, hacc, ⟨_, _, GI⟩, _, R.gen, rfl, ?_⟩
  exact gx_begin ok (A := A.in1) rfl (Nat.lt_succ_self m) (GI.setGen rfl) (R.turn.keep _ _ _ R.tn0 fun b _ o e => hk b o e) hacc hw
/-- back in the def -/
theorem Ready.back (R : Ready X pins σ elt tg iter ifs scope gpos N src J G it fp tn code s4 t ga g) {A : Around} {prot : List Addr} {Acc : α → Heap → Prop} {W : Nat → Nat → α → Hp → Prop} {Yl : α → V → Hp → (α → Hp → Prop) → Prop} {Dn : α → Hp → Prop} {vs : List Nat} {pn : List (Addr × Obj)} {H' : Hp} {s' : Shared}
    (GI : (R.dat A prot Acc W Yl Dn vs).Inv pn H' s') : L2.Inv X pins σ H' s' :=
  R.i4.call' (ch := fp) GI.2.1.os GI.2.1.base GI.2.1.hok GI.2.1.bare fun b hb => ⟨(R.fpX b hb).1.2.2.2.1, (R.fpX b hb).1.2.1, (R.fpX b hb).1.2.2.2.2.1, (R.fpX b hb).1.2.2.2.2.2⟩
end
section
variable {c P : Addr} {elt tg iter : Expr} {ifs : List Expr} {scope : Scope} {gpos p pos : Pos} {N : List Str} {src : List (Option Nat)} {wi : TI} {g : TG} {tt : TT} {te : TE} {k : Nat} {vs : List Nat}
end
end
/-- by a look at the names -/
def gxsB (XN : List Str) (xsc scope : Scope) (N : List Str) (src : List (Option Nat)) : Bool :=
  decide (scope.kind = .function) && (!scope.isCoroutine && ((scope.names.all fun y => decide (y.2 ≠ .cell)) && (decide (scope.names.lookup (".0" : Str) = some NameKind.local) &&
  ((scope.names.all fun y => decide (y.2 ≠ .free) || decide (xsc.names.lookup y.1 = some .cell) || decide (xsc.names.lookup y.1 = some .free)) && (decide (src.length = N.length) && (decide N.Nodup &&
  (List.range src.length).all fun i => match src[i]? with
    | some (some j) => (match N[i]? with
      | some x => decide (XN[j]? = some x) && decide (scope.names.lookup x = some .free)
      | none => false)
    | _ => true))))))
theorem gxs_of {XN : List Str} {xsc scope : Scope} {N : List Str} {src : List (Option Nat)} (h : gxsB XN xsc scope N src = true) : GxS XN xsc scope N src := by
  unfold gxsB at h
  simp only [Bool.and_eq_true, decide_eq_true_eq, Bool.not_eq_true', List.all_eq_true, Bool.or_eq_true] at h
  obtain ⟨h1, h2, h3, h4, h5, h6, h7, h8⟩ := h
  refine ⟨h1, h2, h3, h4, fun y hy e => ?_, h6, h7, fun i j e => ?_⟩
  · rcases h5 y hy with (z | z) | z
    · exact absurd e z
    · exact .inl z
    · exact .inr z
  · have hi : i < src.length := (List.getElem?_eq_some_iff.mp e).1
    have q := h8 i (List.mem_range.mpr hi)
    rw [e] at q
    cases hn : N[i]? with
    | none => rw [hn] at q; cases q
    | some x =>
      rw [hn] at q
      obtain ⟨q1, q2⟩ := Bool.and_eq_true_iff.mp q
      exact ⟨x, rfl, of_decide_eq_true q1, of_decide_eq_true q2⟩
end FF
namespace FF
open PySem PySem.Spec PyProof.Rows L2
variable [LT]
/-! ### tuple(elt for ..) -/
section
variable {α : Type}
theorem gx_nextA {D : GxD α} {A : Around} {ga : Addr} {g n : Nat} {a : α} {s : Shared} {Q : Option Value → Shared → Prop} {E : Value → Shared → Prop} (calm : A.handled = none) (room : A.depth < recursionLimit)
    (hfun : ∀ a a' h, D.Acc a h → D.Acc a' h → a = a') (hpr : ∀ a h h', (∀ b ∈ D.prot, h'.get? b = h.get? b) → D.Acc a h → D.Acc a h') (L : D.Live A ga g n a s)
    (some_ : ∀ v x H Nx t, RelV x v → D.Told A ga g n a x H Nx t → Q (some v) t)
    (none_ : ∀ pins H t, D.Inv pins H t → D.Acc a t.heap → D.Dn a H → Q none t) :
    wpAny (model D.Z.prog D.Z.w) A (pyNext (.ref ga)) Q E s := by
  obtain ⟨pins0, H0, G0⟩ := L.inv
  obtain ⟨gs, hgs, hgo⟩ := L.go
  refine wpAny_pyNext_genexpQ (P := D.P) (Y := D.Y) (n := n) calm G0.2.1.nolimit room L.isg hgs hgo (fun v t gs' hb hv => ?_) (fun t hp h' hk => ?_)
  · obtain ⟨i, a1, pins, H, x, Nx, rx, hz, hacc, h0, G, htn, hyl, kap⟩ := hv
    have ea : a1 = a := hfun _ _ _ hacc L.acc
    subst ea
    have same : ∀ b ∈ D.prot, t.heap.get? b = s.heap.get? b := fun b hb' => pins_same G h0 hb'
    have isg : t.heap.IsGen ga g := by
      obtain ⟨o, nm, qn, ho, r⟩ := L.isg
      exact ⟨o, nm, qn, (same ga L.mem).trans ho, r⟩
    refine some_ v x H Nx _ rx ⟨⟨pins, G.setGen hb⟩, hpr _ _ _ same hacc, hyl, isg, i, htn, fun s' pins' H' a' hge isg' G' htn' hacc' nx => ?_⟩
    have kp := kap (s'.setGen g .running) pins' H' a' (G'.setGen rfl) htn' hacc' nx
    cases n with
    | zero => exact kp.elim
    | succ n' =>
    refine ⟨n', rfl, L.mem, isg', hacc', ⟨_, _, G'⟩, gs', ?_, kp⟩
    rw [hge]
    · have hlt : g < t.gens.size := by
        have h1 : g < s.gens.size := (Array.getElem?_eq_some_iff.mp hgs).1
        have h2 : (s.setGen g .running).gens.size = s.gens.size := by simp [Shared.setGen]
        omega
      simp [Shared.setGen, hlt]
  · obtain ⟨a1, pins, H, hacc, h0, G, hdn⟩ := hp
    have ea : a1 = a := hfun _ _ _ hacc L.acc
    subst ea
    refine none_ pins H _ ⟨G.1, Inv.gens (G := (t.setGen g .finished).gens) (G.2.1.kept (t' := t.toks) hk) (bare_set G.2.1.bare rfl), G.2.2⟩ (hpr _ _ _ (fun b hb => ?_) hacc) hdn
    have hb2 := hb
    rw [← G.1] at hb2
    obtain ⟨p, hp, e⟩ := List.mem_map.mp hb2
    have h1 := h0 p hp
    have h2 := (G.2.1.pin p (List.mem_append_right _ hp)).1
    rw [← e]
    exact (hk _ _ h2).trans h1.symm
def accLst (S : Addr) : List V → Heap → Prop := fun xs h => ∃ (its : List Value) (c : Nat), Vals xs its ∧ h.get? S = some { cls := .type "list", dict := none, data := .seq its.toArray c, slots := #[] }
def ylLst : List V → V → Hp → (List V → Hp → Prop) → Prop := fun xs x H Nx => xs.length < sizeLine ∧ Nx (xs ++ [x]) H
theorem lst_loop {D : GxD (List V)} {A : Around} {ga S : Addr} {g : Nat} {res : Value} {R : Result → Shared → Prop} (calm : A.handled = none) (room : A.depth < recursionLimit) (hT : ∀ i h h', D.tn i h → (∀ b ∈ D.fp, ∀ o, h.get? b = some o → h'.get? b = some o) → D.tn i h')
    (ow : D.Own ga S) (hyl : D.Yl = ylLst) (hac : D.Acc = accLst S) (fin : ∀ pins H t xs, D.Inv pins H t → accLst S xs t.heap → D.Dn xs H → R (.ok (.ret res)) t) :
    ∀ n s xs, D.Live A.in1 ga g n xs s → codeAny (model D.Z.prog D.Z.w) A (.builtin "list.extend.loop" ⟨[.ref S, .ref ga, res], []⟩) R s := by
  have hS : S ∈ D.prot := by rw [ow.prot]; simp
  have hfun : ∀ a a' h, D.Acc a h → D.Acc a' h → a = a' := by
    intro a a' h h1 h2
    rw [hac] at h1 h2
    obtain ⟨t, c, v, e⟩ := h1
    obtain ⟨t', c', v', e'⟩ := h2
    rw [e] at e'
    injection e' with e1
    injection e1 with _ _ e2
    injection e2 with e3
    have e4 : t = t' := by simpa using e3
    subst e4
    exact v.inj v'
  have hpr : ∀ a h h', (∀ b ∈ D.prot, h'.get? b = h.get? b) → D.Acc a h → D.Acc a h' := by
    intro a h h' e h1
    rw [hac] at h1 ⊢
    obtain ⟨t, c, v, q⟩ := h1
    exact ⟨t, c, v, (e S hS).trans q⟩
  intro n
  induction n using Nat.strongRecOn with
  | _ n ih =>
    intro s xs L
    refine codeAny_builtin F.entry_extend_loop ?_
    rw [Around.under_plainId F.plain_extend_loop _]
    show wpAny _ A.in1 (pyNext (.ref ga) >>= _) _ _ s
    refine wpAny_bind (gx_nextA (A := A.in1) calm room hfun hpr L (fun v x H Nx t rx T => ?_) (fun pins H t G acc dn => ?_))
    · have yl := T.yl
      rw [hyl] at yl
      obtain ⟨hl, q⟩ := yl
      have a1 := T.acc
      rw [hac] at a1
      obtain ⟨its, c1, v1, e1⟩ := a1
      have hsz : its.toArray.size = xs.length := by rw [List.size_toArray]; exact v1.length.symm
      show wpAny _ A.in1 (updateSeq S (·.push v) >>= _) _ _ _
      refine wpAny_bind (wpAny_updateSeq e1 rfl ?_ (by rw [hsz]; omega) (by rw [Array.size_push, hsz]; omega))
      have e2 := Heap.get?_update_self (Obj.mapSeq (·.push v)) e1 rfl
      have acc2 : accLst S (xs ++ [x]) (t.heap.update S (Obj.mapSeq (·.push v))) := ⟨its ++ [v], _, v1.append (.cons rx .nil), by
        rw [e2]
        simp [Obj.mapSeq]
        rfl⟩
      obtain ⟨n', rfl, L'⟩ := T.write (a' := xs ++ [x]) hT ow t.toks (fun b u hb e => (Heap.get?_update_other _ _ (Ne.symm hb)).trans e) e2 (fun v z => by cases z) q (by rw [hac]; exact acc2)
      exact wpAny_pure ⟨plainId_quiet F.plain_extend_loop _, ih n' (Nat.lt_succ_self _) _ _ L'⟩
    · rw [hac] at acc
      exact wpAny_pure (fin pins H t xs G acc dn)
end
section
variable {X : Cx} {pins : List (Addr × Obj)} {σ : L2.St} {elt tg iter : Expr} {ifs : List Expr} {scope : Scope} {gpos : Pos} {N : List Str} {src : List (Option Nat)} {J : It} {G : Hp} {it : Addr} {fp : List Addr} {tn : Nat → Heap → Prop} {code : Value} {s4 t : Shared} {ga : Addr} {g : Nat} {gg : TG} {tt : TT} {te : TE}
theorem collect_gx (R : Ready X pins σ elt tg iter ifs scope gpos N src J G it fp tn code s4 t ga g) {k : Nat} {A : Around} {W : Nat → Nat → List V → Hp → Prop} {Dn : List V → Hp → Prop} {vs : List Nat} {m : Nat} {Q : List Value → Shared → Prop} {E : Value → Shared → Prop}
    (S : GxS X.N X.env.scope scope N src) (hp : GxP X k elt tg ifs scope N gg tt te) (calm : A.handled = none) (dep : A.depth < recursionLimit) (room : Room (k + 1) A.in1.in1) (hA : A.in1.in1.frames = some X.stack) (hd : X.A.handled = none) (fr : X.A.frames = some X.stack)
    (ht : GxT J gg tt te vs (wipe (gxσ src σ) vs) W ylLst Dn) (w0 : W 0 m [] G)
    (fin : ∀ H' t' its xs, L2.Inv X pins σ H' t' → Vals xs its → Dn xs H' → Q its t') : wpAny (model X.prog X.w) A (collect (.ref ga)) Q E t := by
  have hgen : t.TypeIs (.ref ga) "generator" := by
    obtain ⟨o, nm, qn, ho, hc, _⟩ := R.isg
    exact ⟨o, ho, hc⟩
  have hlt : ga < t.heap.objs.size := R.lt
  have hSI : t.heap.objs.size ≠ ga := Nat.ne_of_gt hlt
  unfold collect
  refine wpAny_bind (wpAny_runValue (codeAny_builtin F.entry_proto_collect ?_))
  rw [Around.under_plainId F.plain_proto_collect _]
  show wpAny _ A.in1 (newList [] >>= fun l => again (.builtin "list.__iadd__" ⟨[l, .ref ga], []⟩)) _ _ t
  refine wpAny_bind (wpAny_newObj_type ?_)
  refine wpAny_pure ⟨plainId_quiet F.plain_list_iadd _, codeAny_builtin F.entry_list_iadd ?_⟩
  rw [Around.under_plainId F.plain_list_iadd _]
  have hgen1 : ({ t with heap := t.heap.push { cls := .type "list", data := .seq ([] : List Value).toArray } } : Shared).TypeIs (.ref ga) "generator" := by
    obtain ⟨o, ho, hc⟩ := hgen
    exact ⟨o, Heap.get?_push_of_some _ ho, hc⟩
  have isg1 : (t.heap.push { cls := .type "list", data := .seq ([] : List Value).toArray }).IsGen ga g := by
    obtain ⟨o, nm, qn, ho, r⟩ := R.isg
    exact ⟨o, nm, qn, Heap.get?_push_of_some _ ho, r⟩
  show wpAny _ A.in1 (Builtin.List.listExtendWith (.ref t.heap.objs.size) (.ref ga) (.ref t.heap.objs.size)) _ _ _
  unfold Builtin.List.listExtendWith
  refine wpAny_bind (wpAny_typeOf hgen1 ?_)
  have h1 : Builtin.List.listSameRef (.ref t.heap.objs.size) (.ref ga) = false := by simp [Builtin.List.listSameRef, hSI]
  have h2 : (Value.type "generator" == Value.type "list") = false := by decide
  have h3 : (Value.type "generator" == Value.type "tuple") = false := by decide
  simp only [h1, h2, h3, Bool.or_false, Bool.false_eq_true, if_false]
  refine wpAny_bind (wpAny_pyIter_gen isg1 ?_)
  refine wpAny_bind (wpAny_holding ?_)
  unfold Builtin.List.listLengthHint
  refine wpAny_bind (wpAny_specialOf hgen1 F.gen_no_len ?_)
  show wpAny _ A.in1 (specialOf (Value.ref ga) (Str.ofString "__length_hint__") >>= _) _ _ _
  refine wpAny_bind (wpAny_specialOf hgen1 F.gen_no_hint ?_)
  refine wpAny_pure ?_
  show wpAny _ A.in1 (rule "list.extend.makes-room" >>= fun _ => Builtin.List.listTouch (.ref t.heap.objs.size) >>= fun _ =>
    again (.builtin "list.extend.loop" ⟨[.ref t.heap.objs.size, .ref ga, .ref t.heap.objs.size], []⟩)) _ _ _
  refine wpAny_bind (wpAny_rule ?_)
  have hS₁ : (t.heap.push { cls := .type "list", data := .seq ([] : List Value).toArray }).get? t.heap.objs.size = some { cls := .type "list", data := .seq ([] : List Value).toArray } := Heap.get?_push_size _ rfl
  refine wpAny_bind ?_
  show wpAny _ A.in1 (updateSeq t.heap.objs.size (·.push .none) >>= fun _ => updateSeq t.heap.objs.size (·.pop)) _ _ _
  refine wpAny_bind (wpAny_updateSeq hS₁ rfl ?_)
  have hS₂ := Heap.get?_update_self (Obj.mapSeq (·.push Value.none)) hS₁ rfl
  refine wpAny_updateSeq hS₂ rfl ?_
  have hS₃ := Heap.get?_update_self (Obj.mapSeq (·.pop)) hS₂ rfl
  have oth : ∀ b o, t.heap.get? b = some o →
      (((t.heap.push { cls := .type "list", data := .seq ([] : List Value).toArray }).update t.heap.objs.size (Obj.mapSeq (·.push Value.none))).update t.heap.objs.size (Obj.mapSeq (·.pop))).get? b = some o :=
    fun b o e => (Heap.get?_update_other _ _ (Nat.ne_of_gt (Heap.lt_size e))).trans ((Heap.get?_update_other _ _ (Nat.ne_of_gt (Heap.lt_size e))).trans (Heap.get?_push_of_some _ e))
  obtain ⟨ok, L⟩ := R.live (A := A.in1) (C := [(t.heap.objs.size, _)]) (Acc := accLst t.heap.objs.size) (a := []) (m := m) (h' := _) (tk := t.toks) S hp room hA ht oth
    (fun q hq => by rw [List.mem_singleton.mp hq]; exact ⟨hS₃, Nat.le_refl _, fun v z => by cases z⟩) ⟨[], _, .nil, hS₃⟩ w0
  have big : s4.heap.objs.size < t.heap.objs.size := Nat.lt_trans R.new R.lt
  refine wpAny_pure ⟨plainId_quiet F.plain_extend_loop _, lst_loop (A := A) calm dep ok.turn.keep ⟨rfl, Nat.ne_of_gt R.lt, Nat.le_of_lt big, Nat.ne_of_gt big, fun x c0 e z => ?_, rfl⟩ rfl rfl (fun pn H' t' xs GI acc dn => ?_) (m + 1) _ [] L⟩
  · have hZ := R.inv (A.in1.in1.over (.compLoop (.GeneratorExp elt [⟨tg, iter, ifs, 0⟩] scope gpos) 0 (.ref it) .none (gEnv X scope s4.heap.objs.size code)) []) room.hd (over_frames hA)
    obtain ⟨v, zc⟩ := hZ.cell x c0 e
    exact absurd zc.lt (by rw [z]; exact Nat.lt_irrefl _)
  · obtain ⟨its, c, vv, hS'⟩ := acc
    show wpAny _ A (load t.heap.objs.size >>= _) _ _ t'
    refine wpAny_bind (wpAny_load hS' ?_)
    refine wpAny_pure ?_
    have := fin H' t' its xs (R.back GI) vv dn
    simpa using this
end
def tTupG (P : Addr) (wi : TI) (g : TG) (tt : TT) (te : TE) (src : List (Option Nat)) (vs : List Nat) : TE := fun σ H Q => wi σ H fun J H1 => TabG H1 P ∧ ∀ H2, Tabd P H1 H2 →
  ∃ W : Nat → Nat → List V → Hp → Prop, (∃ m, W 0 m [] H2) ∧ GxT (α := List V) J g tt te vs (wipe (gxσ src σ) vs) W ylLst (fun xs H' => xs.length ≤ sizeLine ∧ ∀ q, H' q = none → Q (.ref q) (upd H' q (.tup xs)))
section
variable {X : Cx} {c P : Addr} {elt tg iter : Expr} {ifs : List Expr} {scope : Scope} {gpos p pos : Pos} {N : List Str} {src : List (Option Nat)} {wi : TI} {g : TG} {tt : TT} {te : TE} {k : Nat} {vs : List Nat}
theorem pe_tuple (hr : Room (k + 6) X.A) (hg : Gl X "tuple") (hm : X.mg "tuple" = none) (TB : LamX.TabB X.base X.mg c P) (hcode : X.env.code = .ref c) (S : GxS X.N X.env.scope scope N src) (hi : PI X tg iter wi) (hp : GxP X k elt tg ifs scope N g tt te)
    (hs : ∀ v, genFold iter X.env v = pure v := by intro _; rfl)
    (he : starEach [.GeneratorExp elt [⟨tg, iter, ifs, 0⟩] scope gpos] X.env = (false, eval (.GeneratorExp elt [⟨tg, iter, ifs, 0⟩] scope gpos) X.env) :: starEach [] X.env := by rfl) :
    PE X (.Call (.Name "tuple" p) [.GeneratorExp elt [⟨tg, iter, ifs, 0⟩] scope gpos] [] pos) (tTupG P wi g tt te src vs) := by
  refine ⟨fun pins s σ H Q I h => ?_⟩
  refine wpAny_Call_Name_kw (ld_blt I hg hm boot_tuple (PyProof.Rows.callWith_type1 ?_ he (by rfl)))
  rw [he]
  show wpAny _ _ (spliced ((false, eval (.GeneratorExp elt [⟨tg, iter, ifs, 0⟩] scope gpos) X.env) :: backTo pos (starEach [] X.env))) _ _ s
  refine Calls.spliced_cons (gx_make hr TB hcode S hi hs I h fun J G it fp tn code s4 t ga gn q R => Calls.spliced_nil ?_)
  obtain ⟨W, ⟨m, w0⟩, ht⟩ := q
  have r1 : Room (k + 5) X.A.in1 := hr.in1
  have r2 : Room (k + 4) X.A.in1.in1 := r1.in1
  have r3 : Room (k + 3) X.A.in1.in1.in1 := r2.in1
  have r4 : Room (k + 2) X.A.in1.in1.in1.in1 := r3.in1
  have hgen : t.TypeIs (.ref ga) "generator" := by
    obtain ⟨o, nm, qn, ho, hc, _⟩ := R.isg
    exact ⟨o, ho, hc⟩
  refine callType_codes (Q₁ := fun obj s₁ => s₁.TypeIs obj "tuple" ∧ EP X pins σ Q obj s₁) F.called_tuple (F.typeCall_tuple_1 _) F.entry_object_init ?_ fun obj s₁ h₁ => ⟨h₁.1, F.args_object_init_2 obj _, object_init_meets F.called_tuple.init.lookup F.called_tuple.made (by decide) X.prog X.w X.A.in1 _ s₁ ⟨h₁.1, rfl, h₁.2⟩⟩
  refine codeAny_of_tree ?_
  show wpAny _ X.A.in1.in1 (do checkBuiltinCall "tuple.__new__" ⟨[.type "tuple", .ref ga], []⟩; again (.builtin "tuple.__new__" ⟨[.type "tuple", .ref ga], []⟩)) _ _ t
  refine wpAny_bind (wpAny_of_eq (F.newCall_tuple_1 _) (wpAny_pure ⟨plainId_quiet F.plain_tuple_new _, codeAny_builtin F.entry_tuple_new ?_⟩))
  rw [Around.under_plainId F.plain_tuple_new _]
  have hsub := sub_tuple_self
  have hinit := init_tuple_lookup
  have hmh := madeHere_tuple
  wp_walk using wpAny_typeOf hgen, collect_gx (A := X.A.in1.in1) R (k := k) (m := m) S hp r2.hd r2.depth (r4.mono (by omega)) I.ok.frames hr.hd I.ok.frames ht w0
  intro H' t' its xs I' vv dn
  obtain ⟨hz, q⟩ := dn
  show wpAny _ _ (Builtin.Tuple.tupleExact its.toArray >>= fun v => ret v) _ _ _
  unfold Builtin.Tuple.tupleExact
  refine wpAny_bind (wpAny_newObj_type ?_ (by show its.toArray.size ≤ sizeLine; rw [List.size_toArray, ← vv.length]; exact hz))
  refine wpAny_pure ?_
  refine ⟨⟨_, Heap.get?_push_size _ rfl, rfl⟩, .ref t'.heap.objs.size, _, I'.laid (t' := t'.toks) (o := .tup xs) (fun b ob q => Heap.get?_push_of_some _ q) (Nat.le_refl _) ?_, rfl, q _ (I'.hok.fresh (Nat.le_refl _))⟩
  exact ⟨hz, its, vv, IsTup.new _ _⟩
end
end FF
namespace FF
open PySem PySem.Spec PyProof.Rows L2
variable [LT]
/-! ### defs of the text -/
structure DefAt (K : PySem.W.Frag) (mg : Str → Option Value) (x : Str) (st : Stmt) (ps : List Str) (f : Addr) (fd : FuncData) : Prop where
  F : FunD K x x (defArgs st) (defBody st) (defScope st) [] [] f fd
  g : mg x = some (.ref f)
  b : Binds K fd ps []
theorem DefAt.ok {P : Program} {w : World} {K : PySem.W.Frag} {mg : Str → Option Value} {base : Heap} {x : Str} {st : Stmt} {f : Addr} {fd : FuncData} {N ps : List Str} {k : Nat} {sp : Sp} (D : DefAt K mg x st ps f fd) (S : FnScope N ps (defScope st)) (len : ∀ vs H Q E, sp vs H Q E → vs.length = ps.length)
    (hbody : ∀ (A : Around) (outer : List Env) (s : Shared) (H : Hp) (vs : List V) (Q : VK) (E : XK), Room k (A.deeper (envOfC x (defScope st) s.heap.objs.size f fd.code)) → sp vs H Q E →
      ∃ t, PSs (cxOf CX0 P w K mg base N x (defScope st) f fd.code A outer s H E).nox (defBody st) t ∧ t { nx := fun _ H' => Q .non H', rt := Q } (start N vs) H) : FnOk P w K mg base CX0 (k + 1) f fd ps sp := by
  obtain ⟨oc, od, dV, kV, doc, pm, an, cdv, ct, osl, rfl, lk, hcd, _, _⟩ := D.F.ex
  refine fn_of lk hcd S len fun A outer s H vs Q E hr hsp => ?_
  obtain ⟨t, h, q⟩ := hbody A outer s H vs Q E hr hsp
  exact ⟨t, h.nox, q⟩
/-! ### heaps: what stays -/
/-- but for the addresses in S all that is tracked stays; tables stay tables -/
structure Kx (S : Addr → Prop) (H H' : Hp) : Prop where
  at_ : ∀ b o, H b = some o → (∀ ps, o ≠ .tbl ps) → ¬ S b → H' b = some o
  tab : ∀ b, TabG H b → TabG H' b
  dom : ∀ b, H' b = none → H b = none
  lam : ∀ b ps, LT.lam b = true → ¬ S b → H b = some (.tbl ps) → H' b = some (.tbl ps)
theorem upd_none {H : Hp} {p b : Addr} {o : HO} (h : upd H p o b = none) : b ≠ p ∧ H b = none := by
  by_cases e : b = p
  · rw [e, upd_same] at h
    cases h
  · rw [upd_ne e] at h
    exact ⟨e, h⟩
abbrev Ke := Kx fun _ => False
theorem Kx.refl {S : Addr → Prop} {H : Hp} : Kx S H H := ⟨fun _ _ h _ _ => h, fun _ h => h, fun _ h => h, fun _ _ _ _ h => h⟩
theorem Kx.trans {S : Addr → Prop} {H H1 H2 : Hp} (a : Kx S H H1) (b : Kx S H1 H2) : Kx S H H2 := ⟨fun c o h n q => b.at_ c o (a.at_ c o h n q) n q, fun c h => b.tab c (a.tab c h), fun c h => a.dom c (b.dom c h), fun c ps l n h => b.lam c ps l n (a.lam c ps l n h)⟩
theorem Kx.mono {S S' : Addr → Prop} {H H1 : Hp} (a : Kx S H H1) (h : ∀ b, S b → S' b) : Kx S' H H1 := ⟨fun c o e n q => a.at_ c o e n fun z => q (h c z), a.tab, a.dom, fun c ps l n e => a.lam c ps l (fun z => n (h c z)) e⟩
theorem Ke.to {S : Addr → Prop} {H H1 : Hp} (a : Ke H H1) : Kx S H H1 := a.mono fun _ z => z.elim
theorem Ke.new {S : Addr → Prop} {H : Hp} {p : Addr} {o : HO} (h : H p = none) : Kx S H (upd H p o) :=
  ⟨fun b u e _ _ => by rw [upd_ne (ne_of_none e h)]; exact e, fun b ⟨ps, e, t⟩ => ⟨ps, by rw [upd_ne (ne_of_none e h)]; exact e, t⟩, fun _ e => (upd_none e).2, fun b ps _ _ e => by rw [upd_ne (ne_of_none e h)]; exact e⟩
theorem Kx.over {S : Addr → Prop} {H H1 : Hp} {p : Addr} {o : HO} (k : Kx S H H1) (h : H p = none) : Kx S H (upd H1 p o) :=
  ⟨fun b u e n q => by rw [upd_ne (ne_of_none e h)]; exact k.at_ b u e n q, fun b t => by
    obtain ⟨ps, e, z⟩ := k.tab b t
    obtain ⟨ps0, e0, _⟩ := t
    exact ⟨ps, by rw [upd_ne (ne_of_none e0 h)]; exact e, z⟩, fun _ e => k.dom _ (upd_none e).2, fun b ps l n e => by rw [upd_ne (ne_of_none e h)]; exact k.lam b ps l n e⟩
theorem Ke.put {H : Hp} {p : Addr} {o u : HO} (h : H p = some u) (hu : ∀ ps, u ≠ .tbl ps) : Kx (fun b => b = p) H (upd H p o) :=
  ⟨fun b v e _ q => by rw [upd_ne q]; exact e, fun b ⟨ps, e, t⟩ => ⟨ps, by rw [upd_ne (ne_of e h fun z => hu ps z.symm)]; exact e, t⟩, fun _ e => (upd_none e).2, fun b ps _ q e => by rw [upd_ne q]; exact e⟩
theorem Ke.tabd {P : Addr} {H H1 : Hp} (h : TabG H P) (t : Tabd P H H1) : Ke H H1 := by
  obtain ⟨ps, hp, _, hl⟩ := h
  refine ⟨fun b o e n _ => (t.2 b fun z => ?_).trans e, fun b ⟨qs, e, q⟩ => ?_, fun b e => ?_, fun b qs l _ e => (t.2 b fun z => ?_).trans e⟩
  · rw [z, hp] at e
    exact n ps (Option.some.inj e).symm
  · by_cases hb : b = P
    · rw [hb]
      exact t.1
    · exact ⟨qs, (t.2 b hb).trans e, q⟩
  · by_cases hb : b = P
    · obtain ⟨qs, z, _⟩ := t.1
      rw [hb, z] at e
      cases e
    · exact (t.2 b hb).symm.trans e
  · rw [z, hl] at l
    cases l
theorem Ke.lst {H H' : Hp} (a : Ke H H') {p : Addr} {xs : List V} (h : H p = some (.lst xs)) : H' p = some (.lst xs) := a.at_ p _ h (fun _ z => nomatch z) fun z => z
theorem Kx.tup {S : Addr → Prop} {H H' : Hp} (a : Kx S H H') {p : Addr} {xs : List V} (h : H p = some (.tup xs)) (n : ¬ S p) : H' p = some (.tup xs) := a.at_ p _ h (fun _ z => nomatch z) n
theorem Ke.tup {H H' : Hp} (a : Ke H H') {p : Addr} {xs : List V} (h : H p = some (.tup xs)) : H' p = some (.tup xs) := a.at_ p _ h (fun _ z => nomatch z) fun z => z
theorem Kx.seqL {S : Addr → Prop} {K : PySem.W.Frag} {H H' : Hp} {p : Addr} {xs : List V} (a : Kx S H H') (h : SqL K H p xs) (n : ¬ S p) : SqL K H' p xs := by
  rcases h with (h | ⟨o, h⟩) | h
  · exact .inl (.inl (a.at_ _ _ h (fun _ z => nomatch z) n))
  · exact .inl (.inr ⟨o, a.at_ _ _ h (fun _ z => nomatch z) n⟩)
  · exact .inr h
theorem sqT_of {K : PySem.W.Frag} {H : Hp} {p : Addr} {xs : List V} (h : H p = some (.tup xs)) : SqT K H p xs := .inl (.inl h)
theorem sqL_of {K : PySem.W.Frag} {H : Hp} {p : Addr} {xs : List V} (h : H p = some (.lst xs)) : SqL K H p xs := .inl (.inl h)
/-! ### the deck of drawn numbers -/
def Dig (ds : List Int) : Prop := ∀ d ∈ ds, 0 ≤ d ∧ d < 1000
def Deck (H : Hp) (p : Addr) : Prop := ∃ ds : List Int, H p = some (.lst (ds.map V.int)) ∧ Dig ds
/-- numbers were drawn; besides nothing has changed but what is new -/
structure Dk (p : Addr) (H H' : Hp) : Prop where
  k : Kx (fun b => b = p) H H'
  d : Deck H' p
theorem Dk.refl {p : Addr} {H : Hp} (d : Deck H p) : Dk p H H := ⟨.refl, d⟩
theorem Dk.trans {p : Addr} {H H1 H2 : Hp} (a : Dk p H H1) (b : Dk p H1 H2) : Dk p H H2 := ⟨a.k.trans b.k, b.d⟩
theorem Deck.ke {H H' : Hp} {p : Addr} (d : Deck H p) (a : Ke H H') : Deck H' p := by
  obtain ⟨ds, h, g⟩ := d
  exact ⟨ds, a.lst h, g⟩
theorem Dk.ke {p : Addr} {H H1 H2 : Hp} (a : Dk p H H1) (b : Ke H1 H2) : Dk p H H2 := ⟨a.k.trans b.to, a.d.ke b⟩
theorem Dk.new {p q : Addr} {H H1 : Hp} {o : HO} (a : Dk p H H1) (h : H1 q = none) : Dk p H (upd H1 q o) := a.ke (Ke.new h)
theorem Deck.new {p q : Addr} {H : Hp} {o : HO} (a : Deck H p) (h : H q = none) : Deck (upd H q o) p := a.ke (Ke.new h)
theorem Dk.tup {p q : Addr} {H H1 : Hp} {xs : List V} (a : Dk p H H1) (d : Deck H p) (h : H q = some (.tup xs)) : H1 q = some (.tup xs) := by
  obtain ⟨ds, hd, _⟩ := d
  exact a.k.tup h (ne_of h hd (fun z => nomatch z))
theorem Dk.lst {p q : Addr} {H H1 : Hp} {xs : List V} (a : Dk p H H1) (h : H q = some (.lst xs)) (n : q ≠ p) : H1 q = some (.lst xs) := a.k.at_ q _ h (fun _ z => nomatch z) n
theorem Dk.seqL {K : PySem.W.Frag} {p q : Addr} {H H1 : Hp} {xs : List V} (a : Dk p H H1) (h : SqL K H q xs) (n : q ≠ p) : SqL K H1 q xs := a.k.seqL h n
/-! ### webs -/
def Ties (H : Hp) (rs : List V) (ts : List (Int × Int)) : Prop := Paired (fun (r : V) (t : Int × Int) => ∃ q, r = .ref q ∧ H q = some (.tup [.int t.1, .int t.2])) rs ts
def Web (H : Hp) (v : V) (n : Int) (ts : List (Int × Int)) : Prop := ∃ t u rs, v = .ref t ∧ H t = some (.tup [.int n, .ref u]) ∧ H u = some (.tup rs) ∧ Ties H rs ts
theorem Ties.mono {H H' : Hp} {rs : List V} {ts : List (Int × Int)} (h : Ties H rs ts) (k : ∀ q xs, H q = some (.tup xs) → H' q = some (.tup xs)) : Ties H' rs ts := L2.Paired.mapP h fun _ _ ⟨q, e, z⟩ => ⟨q, e, k q _ z⟩
theorem Web.mono {H H' : Hp} {v : V} {n : Int} {ts : List (Int × Int)} (h : Web H v n ts) (k : ∀ q xs, H q = some (.tup xs) → H' q = some (.tup xs)) : Web H' v n ts := by
  obtain ⟨t, u, rs, e, h1, h2, h3⟩ := h
  exact ⟨t, u, rs, e, k _ _ h1, k _ _ h2, h3.mono k⟩
theorem Ties.ke {H H' : Hp} {rs : List V} {ts : List (Int × Int)} (h : Ties H rs ts) (k : Ke H H') : Ties H' rs ts := h.mono fun _ _ => k.tup
theorem Web.ke {H H' : Hp} {v : V} {n : Int} {ts : List (Int × Int)} (h : Web H v n ts) (k : Ke H H') : Web H' v n ts := h.mono fun _ _ => k.tup
theorem Ties.dk {H H' : Hp} {p : Addr} {rs : List V} {ts : List (Int × Int)} (h : Ties H rs ts) (k : Dk p H H') (d : Deck H p) : Ties H' rs ts := h.mono fun _ _ => k.tup d
theorem Web.dk {H H' : Hp} {p : Addr} {v : V} {n : Int} {ts : List (Int × Int)} (h : Web H v n ts) (k : Dk p H H') (d : Deck H p) : Web H' v n ts := h.mono fun _ _ => k.tup d
theorem Ties.append {H : Hp} : ∀ {rs qs : List V} {ts us : List (Int × Int)}, Ties H rs ts → Ties H qs us → Ties H (rs ++ qs) (ts ++ us)
  | _, _, _, _, .nil, b => b
  | _, _, _, _, .cons r t, b => .cons r (Ties.append t b)
theorem Ties.take {H : Hp} : ∀ {rs : List V} {ts : List (Int × Int)} (n : Nat), Ties H rs ts → Ties H (rs.take n) (ts.take n)
  | _, _, 0, _ => .nil
  | _, _, _ + 1, .nil => .nil
  | _, _, n + 1, .cons r t => .cons r (Ties.take n t)
theorem Ties.drop {H : Hp} : ∀ {rs : List V} {ts : List (Int × Int)} (n : Nat), Ties H rs ts → Ties H (rs.drop n) (ts.drop n)
  | _, _, 0, h => h
  | _, _, _ + 1, .nil => .nil
  | _, _, n + 1, .cons _ t => Ties.drop n t
theorem Ties.length {H : Hp} {rs : List V} {ts : List (Int × Int)} (h : Ties H rs ts) : rs.length = ts.length := Paired.length h
theorem Ties.get {H : Hp} : ∀ {rs : List V} {ts : List (Int × Int)} {i : Nat} {r : V}, Ties H rs ts → rs[i]? = some r → ∃ t q, ts[i]? = some t ∧ r = .ref q ∧ H q = some (.tup [.int t.1, .int t.2])
  | _, _, _, _, .nil, e => by simp at e
  | _, _, 0, _, .cons (b := t) ⟨q, e1, e2⟩ _, e => by simp at e; subst e; exact ⟨t, q, rfl, e1, e2⟩
  | _, _, i + 1, r, .cons _ t, e => by
    obtain ⟨u, q, h1, h2, h3⟩ := Ties.get (i := i) (r := r) t (by simpa using e)
    exact ⟨u, q, by simpa using h1, h2, h3⟩
theorem Deck.put {H : Hp} {p q : Addr} {o : HO} (d : Deck H p) (n : p ≠ q) : Deck (upd H q o) p := by
  obtain ⟨ds, h, g⟩ := d
  exact ⟨ds, by rw [upd_ne n]; exact h, g⟩
theorem Deck.ne {H : Hp} {p q : Addr} (d : Deck H p) (h : H q = none) : p ≠ q := by
  obtain ⟨ds, e, _⟩ := d
  exact ne_of_none e h
theorem Dk.over {p q : Addr} {H G : Hp} {o : HO} (k : Dk p H G) (d : Deck H p) (h : H q = none) : Dk p H (upd G q o) := ⟨k.k.over h, k.d.put (d.ne h)⟩
theorem Ties.new {H : Hp} {p : Addr} {o : HO} {rs : List V} {ts : List (Int × Int)} (h : Ties H rs ts) (n : H p = none) : Ties (upd H p o) rs ts := h.mono fun q xs e => by rw [upd_ne (ne_of_none e n)]; exact e
theorem Ties.put {H : Hp} {p : Addr} {o : HO} {zs : List V} {rs : List V} {ts : List (Int × Int)} (h : Ties H rs ts) (n : H p = some (.lst zs)) : Ties (upd H p o) rs ts := h.mono fun q xs e => by rw [upd_ne (ne_of e n (fun z => nomatch z))]; exact e
theorem Ties.one {H : Hp} {q : Addr} {a b : Int} (h : H q = some (.tup [.int a, .int b])) : Ties H [.ref q] [(a, b)] := .cons ⟨q, rfl, h⟩ .nil
/-- a list of ties stands at l -/
def TL (H : Hp) (l : Addr) (ts : List (Int × Int)) : Prop := ∃ rs, H l = some (.lst rs) ∧ Ties H rs ts
def TOk (n : Int) (ts : List (Int × Int)) : Prop := ∀ t ∈ ts, 0 ≤ t.1 ∧ t.1 < t.2 ∧ t.2 < n
theorem TOk.nil {n : Int} : TOk n [] := fun _ z => nomatch z
theorem TOk.append {n : Int} {ts us : List (Int × Int)} (a : TOk n ts) (b : TOk n us) : TOk n (ts ++ us) := fun t ht => (List.mem_append.mp ht).elim (a t) (b t)
theorem TOk.one {n a b : Int} (h0 : 0 ≤ a) (h1 : a < b) (h2 : b < n) : TOk n [(a, b)] := fun t ht => by rw [List.mem_singleton.mp ht]; exact ⟨h0, h1, h2⟩
theorem TL.ke {H H' : Hp} {l : Addr} {ts : List (Int × Int)} (h : TL H l ts) (k : Ke H H') : TL H' l ts := by
  obtain ⟨rs, e, t⟩ := h
  exact ⟨rs, k.lst e, t.ke k⟩
theorem TL.dk {H H' : Hp} {l p : Addr} {ts : List (Int × Int)} (h : TL H l ts) (k : Dk p H H') (d : Deck H p) (n : l ≠ p) : TL H' l ts := by
  obtain ⟨rs, e, t⟩ := h
  exact ⟨rs, k.lst e n, t.dk k d⟩
end FF
namespace FF
open PySem PySem.Spec PyProof.Rows L2
variable [LT]
/-! ### the code object of a def -/
theorem code_at {K : PySem.W.Frag} {x q : Str} {pa : Arguments} {bd : List Stmt} {sc : Scope} {dvs : List V} {kws : List (Str × V)} {f : Addr} {fd : FuncData} (F : FunD K x q pa bd sc dvs kws f fd) : ∃ c, fd.code = .ref c := by
  obtain ⟨oc, od, dV, kV, doc, pm, an, cdv, ct, osl, rfl, lk, hcd, _, _⟩ := F.ex
  exact He.codeIn_ref hcd
theorem code_is {K : PySem.W.Frag} {x q : Str} {pa : Arguments} {bd : List Stmt} {sc : Scope} {dvs : List V} {kws : List (Str × V)} {p : Str × Option Str} {fd : FuncData} {c : Addr} (F : FunD K x q pa bd sc dvs kws (He.fAd K p) fd) (h : fd.code = .ref c) : fd.code = .ref (He.cT K p).1 := by
  obtain ⟨oc, od, dV, kV, doc, pm, an, cdv, ct, osl, rfl, lk, hcd, _, _⟩ := F.ex
  rw [h]
  exact congrArg Value.ref (He.codeOf_eq lk h).symm
/-! ### slices -/
theorem cut_to (xs : List V) (n : Nat) : cutV xs none (some (n : Int)) = xs.take n := by
  unfold cutV
  rw [HT.sIx_none, HT.sIx_nat]
  show (xs.drop 0).take (min n xs.length - 0) = xs.take n
  rw [List.drop_zero, Nat.sub_zero]
  rcases Nat.le_total n xs.length with h | h
  · rw [Nat.min_eq_left h]
  · rw [Nat.min_eq_right h, List.take_of_length_le (Nat.le_refl _), List.take_of_length_le h]
theorem cut_from (xs : List V) (n : Nat) : cutV xs (some (n : Int)) none = xs.drop n := by
  unfold cutV
  rw [HT.sIx_none, HT.sIx_nat]
  rcases Nat.le_total n xs.length with h | h
  · rw [Nat.min_eq_left h, List.take_of_length_le (by rw [List.length_drop]; omega)]
  · rw [Nat.min_eq_right h, Nat.sub_self, List.take_zero, List.drop_of_length_le h]
theorem cut_to' (xs : List V) {i : Int} (h : 0 ≤ i) : cutV xs none (some i) = xs.take i.toNat := by
  rw [← cut_to, Int.toNat_of_nonneg h]
theorem line_big : 16000000 ≤ sizeLine := by decide
theorem emod_bds (x : Int) {n : Int} (h : 0 < n) : 0 ≤ x % n ∧ x % n < n := ⟨Int.emod_nonneg _ (by omega), Int.emod_lt_of_pos _ h⟩
theorem get_int {xs : List Int} {i : Nat} (h : i < xs.length) : (xs.map V.int)[i]? = some (.int xs[i]) := by
  rw [List.getElem?_map, List.getElem?_eq_getElem h]
  rfl
theorem at_int {xs : List Int} {i : Int} (h0 : 0 ≤ i) (h1 : i < xs.length) : ∃ v, v ∈ xs ∧ xs[i.toNat]? = some v ∧ atI (xs.map V.int) i = some (.int v) := by
  obtain ⟨j, rfl⟩ : ∃ j : Nat, i = j := ⟨i.toNat, by omega⟩
  have hj : j < xs.length := by omega
  exact ⟨xs[j], List.getElem_mem _, List.getElem?_eq_getElem hj, atI_nat (get_int hj)⟩
theorem ix_in {n : Nat} {i : Int} (h0 : 0 ≤ i) (h1 : i < n) : ixN n i = some i.toNat := by
  unfold ixN
  rw [if_pos h0, if_pos h1]
theorem yes_ite {σ : L2.St} {H : Hp} {A B : Hp → Prop} (h : A H) : tYes σ H (fun b H3 => if b = true then A H3 else B H3) := by
  show if true = true then A H else B H
  rw [if_pos rfl]
  exact h
theorem int_at {ns : List Int} {i : Nat} {x : V} (hx : (ns.map V.int)[i]? = some x) : ∃ v, ns[i]? = some v ∧ x = .int v := by
  rw [List.getElem?_map] at hx
  cases e : ns[i]? with
  | none => rw [e] at hx; cases hx
  | some v => rw [e] at hx; exact ⟨v, rfl, (Option.some.inj hx).symm⟩
theorem Ties.rep {H : Hp} {q : Addr} {a b : Int} (h : H q = some (.tup [.int a, .int b])) : ∀ k : Nat, Ties H (List.replicate k [V.ref q]).flatten (List.replicate k (a, b))
  | 0 => .nil
  | k + 1 => by
    rw [List.replicate_succ, List.replicate_succ, List.flatten_cons]
    exact .cons ⟨q, rfl, h⟩ (Ties.rep h k)
theorem TOk.rep {n a b : Int} (h0 : 0 ≤ a) (h1 : a < b) (h2 : b < n) (k : Nat) : TOk n (List.replicate k (a, b)) := fun t ht => by
  rw [List.eq_of_mem_replicate ht]
  exact ⟨h0, h1, h2⟩
theorem TOk.mono {n m : Int} {ts : List (Int × Int)} (h : TOk n ts) (k : n ≤ m) : TOk m ts := fun t ht => ⟨(h t ht).1, (h t ht).2.1, Int.lt_of_lt_of_le (h t ht).2.2 k⟩
theorem TOk.sub {n : Int} {ts us : List (Int × Int)} (h : TOk n ts) (k : ∀ t ∈ us, t ∈ ts) : TOk n us := fun t ht => h t (k t ht)
theorem ne_one {a b : Int} (h : ¬ decide (V.int a = V.int b) = true) : a ≠ b := fun e => h (decide_eq_true (by rw [e]))
theorem eq_one {a b : Int} (h : decide (V.int a = V.int b) = true) : a = b := V.int.inj (of_decide_eq_true h)
theorem lst_new {H : Hp} {p q : Addr} {o : HO} {xs : List V} (n : H p = none) (h : H q = some (.lst xs)) : upd H p o q = some (.lst xs) := by rw [upd_ne (ne_of_none h n)]; exact h
theorem tup_new {H : Hp} {p q : Addr} {o : HO} {xs : List V} (n : H p = none) (h : H q = some (.tup xs)) : upd H p o q = some (.tup xs) := by rw [upd_ne (ne_of_none h n)]; exact h
/-! ### things of any kind -/
inductive TyN (H : Hp) : V → String → Prop where
  | non : TyN H .non "NoneType"
  | bl (b : Bool) : TyN H (.bl b) "bool"
  | int (i : Int) : TyN H (.int i) "int"
  | str (x : Str) : TyN H (.str x) "str"
  | lst {a : Addr} {xs : List V} (h : H a = some (.lst xs)) : TyN H (.ref a) "list"
  | tup {a : Addr} {xs : List V} (h : H a = some (.tup xs)) : TyN H (.ref a) "tuple"
  | dic {a : Addr} {kvs : List (Key × V)} (h : H a = some (.dK kvs)) : TyN H (.ref a) "dict"
theorem TyN.x {K : PySem.W.Frag} {H : Hp} {v : V} {n : String} (h : TyN H v n) : TyX K H v (.type n) := by
  cases h with
  | non => exact .base .non
  | bl b => exact .base (.bl b)
  | int i => exact .base (.int i)
  | str x => exact .base (.str x)
  | lst h => exact .base (.lst h)
  | tup h => exact .base (.tup h)
  | dic h => exact .base (.dK h)
def isNum (v : V) (lo hi : Int) : Bool := match v with
  | .int i => decide (lo ≤ i) && decide (i ≤ hi)
  | _ => false
theorem iteB {b : Bool} {A B : Prop} (h1 : b = true → A) (h2 : b = false → B) : if b = true then A else B := by
  cases b with
  | true => exact iteT (h1 rfl)
  | false => exact iteF (h2 rfl)
end FF
namespace FF
open PySem PySem.Spec PyProof.Rows L2
variable [LT]
/-! ### walks of generator expressions -/
section
variable {α : Type} {K : PySem.W.Frag} {u : Addr} {xs : List V} {g : TG} {tt : TT} {te : TE} {vs : List Nat} {σ0 : L2.St} {yl : α → V → Hp → (α → Hp → Prop) → Prop} {dn : α → Hp → Prop} {G : Hp} {a0 : α}
end
/-! ### ties within a lot -/
def inside (ls : List Int) (ts : List (Int × Int)) : Nat := (ts.filter fun t => decide (t.1 ∈ ls) && decide (t.2 ∈ ls)).length
theorem inV_int (a : Int) (ls : List Int) : inV (.int a) (ls.map V.int) = decide (a ∈ ls) := by
  unfold inV
  rw [List.any_map]
  induction ls with
  | nil => rfl
  | cons x r ih =>
    rw [List.any_cons, ih]
    have e : ((fun y => eqV y (V.int a)) ∘ V.int) x = decide (x = a) := rfl
    rw [e]
    by_cases hx : x = a
    · subst hx
      simp
    · have : ¬ a = x := fun z => hx z.symm
      simp [hx, this]
end FF
namespace FF
open PySem PySem.Spec PyProof.Rows L2
variable [LT]
/-! ### rules that speak of the written part, by its own letter (for the blocks of comprehensions) -/
section
variable {X : Cx} {K : PySem.W.Frag}
theorem in_seqK (h : X.K = K := by rfl) : OpR X (compareOp .In) (rIn K false) := h ▸ op_in_seq
theorem ix_listK (h : X.K = K := by rfl) : IxR X (rIxL K) := h ▸ ix_list
theorem ix_tupK (h : X.K = K := by rfl) : IxR X (rIxT K) := h ▸ ix_tup
theorem sl_listK (h : X.K = K := by rfl) : L2.SlR X (rSlL K) := h ▸ sl_list
theorem eqDK (hu : X.A.units + 64 < cLine) (h : X.K = K := by rfl) : OpR X (compareOp .Eq) (rEqD K) := h ▸ op_eqD hu
theorem neDK (hu : X.A.units + 64 < cLine) (h : X.K = K := by rfl) : OpR X (compareOp .NotEq) (rNeD K) := h ▸ op_neD hu
theorem lenK (h : X.K = K := by rfl) : CallR X (.builtin "len") (fun xs H Q => ∃ p ys, xs = [.ref p] ∧ (SqL K H p ys ∨ SqT K H p ys) ∧ Q (.int ys.length) H) := h ▸ call_len_seq
theorem listK (h : X.K = K := by rfl) : CallR X (.type "list") (fun xs H Q => ∃ p ys, xs = [.ref p] ∧ (SqL K H p ys ∨ SqT K H p ys) ∧ ∀ l, H l = none → Q (.ref l) (upd H l (.lst ys))) := h ▸ call_list_of
theorem tupleK (h : X.K = K := by rfl) : CallR X (.type "tuple") (fun xs H Q => ∃ p ys, xs = [.ref p] ∧ ((SqL K H p ys ∧ ∀ l, H l = none → Q (.ref l) (upd H l (.tup ys))) ∨ (SqT K H p ys ∧ Q (.ref p) H))) := h ▸ call_tuple_of
theorem tgtK {es : List Expr} {k n : Nat} {t : TGs} {pos : Pos} (hp : PGs X es t) (hc : X.calm = true := by rfl) (h : X.K = K := by rfl)
    (hn : (assignEach es X.env).length = n := by rfl) (hst : (assignEach es X.env).findIdx? (·.1) = none := by rfl) : PG X (.Tuple es k pos) (gTup K n t) := h ▸ pg_tup hc hp hn hst
end
/-! ### slices and sums of tuples: what is told may be an old tuple or a new one -/
def rCatU (_ : PySem.W.Frag) : R2 := fun x y H Q => ∃ a b xs ys, x = .ref a ∧ y = .ref b ∧ H a = some (.tup xs) ∧ H b = some (.tup ys) ∧ xs.length + ys.length ≤ sizeLine ∧ ∀ p H', Ke H H' → H' p = some (.tup (xs ++ ys)) → Q (.ref p) H'
theorem catU {X : Cx} {K : PySem.W.Frag} (h : X.K = K := by rfl) : OpR X (binaryOp .Add) (rCatU K) := by
  intro pins s σ H x y v u Q I rx ry hq
  obtain ⟨a, b, xs, ys, e1, e2, hx, hy, hl, q⟩ := hq
  refine op_catA pins s σ H x y v u Q I rx ry ⟨a, b, xs, ys, e1, e2, sqT_of hx, sqT_of hy, hl, fun z => q b H .refl ?_, fun _ z => q a H .refl ?_, fun _ _ p np => q p _ (Ke.new np) upd_same⟩
  · rw [hy, z, List.nil_append]
  · rw [hx, z, List.append_nil]
end FF
namespace FF
open PySem PySem.Spec PyProof.Rows L2
variable [LT]
/-! ### walked things with the written part said -/
section
variable {X : Cx} {K : PySem.W.Frag} {tg l : Expr} {tl : TE}
theorem pi_tupK (hl : PE X l tl) (h : X.K = K := by rfl) : PI X tg l (iTup K tl) := h ▸ pi_tup hl
end
section
variable {X : Cx} {K : PySem.W.Frag} {T : String} {name : Str} {id : String} {r : V → List V → Hp → VK → Prop} {o e : Expr} {es : List Expr} {to : TE} {t : TA} {apos cpos : Pos}
end
end FF
namespace FF
open PySem PySem.Spec PyProof.Rows L2
variable [LT]
/-! ### lots -/
/-- a thing is a tuple of these, or of another kind -/
inductive Tpl (H : Hp) : V → Option (List V) → Prop where
  | yes {a : Addr} {xs : List V} (h : H a = some (.tup xs)) (hx : ∀ x ∈ xs, ∃ n, TyN H x n) : Tpl H (.ref a) (some xs)
  | no {v : V} {n : String} (h : TyN H v n) (hn : n ≠ "tuple") : Tpl H v none
/-- rising from lo, below n -/
def rising (n : Int) : Int → List V → Bool
  | _, [] => true
  | lo, v :: r => match v with
    | .int i => isNum v lo (n - 1) && rising n (i + 1) r
    | _ => false
def lotO (n : Int) : Option (List V) → Bool
  | none => false
  | some [] => false
  | some (v :: r) => rising n 0 (v :: r)
def intsOf (xs : List V) : List Int := xs.map fun v => match v with
  | .int i => i
  | _ => 0
def fullO (n : Int) (ts : List (Int × Int)) (k : Int) (o : Option (List V)) : Bool := lotO n o && match o with
  | none => false
  | some xs => decide ((inside (intsOf xs) ts : Int) > k * ((xs.length : Int) - 1))
theorem intsOf_map (ls : List Int) : intsOf (ls.map V.int) = ls := by
  unfold intsOf
  rw [List.map_map]
  exact List.map_id' ls
structure Lot (n : Int) (ls : List Int) : Prop where
  ne : ls ≠ []
  up : ls.Pairwise (· < ·)
  ok : ∀ x ∈ ls, 0 ≤ x ∧ x < n
theorem rising_of {n : Int} : ∀ {lo : Int} {ls : List Int}, ls.Pairwise (· < ·) → (∀ x ∈ ls, lo ≤ x ∧ x < n) → rising n lo (ls.map V.int) = true
  | _, [], _, _ => rfl
  | lo, i :: r, hp, hx => by
    obtain ⟨h1, h2⟩ := List.pairwise_cons.mp hp
    have hi := hx i List.mem_cons_self
    show (isNum (.int i) lo (n - 1) && rising n (i + 1) (r.map V.int)) = true
    rw [Bool.and_eq_true_iff]
    refine ⟨?_, rising_of h2 fun x hm => ⟨?_, (hx x (List.mem_cons_of_mem _ hm)).2⟩⟩
    · show (decide (lo ≤ i) && decide (i ≤ n - 1)) = true
      rw [decide_eq_true hi.1, decide_eq_true (by omega : i ≤ n - 1)]
      rfl
    · have := h1 x hm
      omega
theorem Lot.o {n : Int} {ls : List Int} (h : Lot n ls) : lotO n (some (ls.map V.int)) = true := by
  cases e : ls with
  | nil => exact absurd e h.ne
  | cons i r =>
    rw [← e]
    have : lotO n (some (ls.map V.int)) = rising n 0 (ls.map V.int) := by rw [e]; rfl
    rw [this]
    exact rising_of h.up h.ok
theorem Lot.full {n : Int} {ls : List Int} (h : Lot n ls) (ts : List (Int × Int)) (k : Int) : fullO n ts k (some (ls.map V.int)) = decide ((inside ls ts : Int) > k * ((ls.length : Int) - 1)) := by
  unfold fullO
  rw [h.o, Bool.true_and]
  show decide ((inside (intsOf (ls.map V.int)) ts : Int) > k * (((ls.map V.int).length : Int) - 1)) = _
  rw [intsOf_map, List.length_map]
theorem Lot.one {n x : Int} (h0 : 0 ≤ x) (h1 : x < n) : Lot n [x] := ⟨List.cons_ne_nil _ _, List.pairwise_singleton _ _, fun y hy => by rw [List.mem_singleton.mp hy]; exact ⟨h0, h1⟩⟩
theorem Lot.two {n x y : Int} (h0 : 0 ≤ x) (h1 : x < y) (h2 : y < n) : Lot n [x, y] := ⟨List.cons_ne_nil _ _, by simp [h1], fun z hz => by
  rcases List.mem_cons.mp hz with rfl | hz
  · exact ⟨h0, by omega⟩
  · rw [List.mem_singleton.mp hz]
    exact ⟨by omega, h2⟩⟩
theorem ty_ints {H : Hp} (ls : List Int) : ∀ x ∈ ls.map V.int, ∃ n, TyN H x n := fun x hx => by
  obtain ⟨i, _, rfl⟩ := List.mem_map.mp hx
  exact ⟨_, .int i⟩
theorem dp_ints {K : PySem.W.Frag} {H : Hp} : ∀ ls : List Int, DpAll K H (ls.map V.int) (ls.map PyData.int)
  | [] => .nil
  | i :: r => .cons (.int i) (dp_ints r)
theorem Lot.all {n : Int} (h : 1 ≤ n) : Lot n ((List.range n.toNat).map fun (i : Nat) => (i : Int)) := by
  refine ⟨fun z => ?_, ?_, fun x hx => ?_⟩
  · have := congrArg List.length z
    simp at this
    omega
  · rw [List.pairwise_map]
    exact List.pairwise_lt_range.imp fun h => by omega
  · obtain ⟨i, hi, rfl⟩ := List.mem_map.mp hx
    have := List.mem_range.mp hi
    omega
theorem rgV_ints (n : Int) : rgV 0 n = ((List.range n.toNat).map fun (i : Nat) => (i : Int)).map V.int := by
  unfold rgV
  rw [List.map_map, Int.sub_zero]
  apply List.map_congr_left
  intro i _
  show V.int (0 + (i : Int)) = V.int (i : Int)
  rw [Int.zero_add]
theorem up_length {n : Int} : ∀ {lo : Int} {ls : List Int}, ls.Pairwise (· < ·) → (∀ x ∈ ls, lo ≤ x ∧ x < n) → (ls.length : Int) ≤ max 0 (n - lo)
  | _, [], _, _ => by simp; omega
  | lo, i :: r, hp, hx => by
    obtain ⟨h1, h2⟩ := List.pairwise_cons.mp hp
    have hi := hx i List.mem_cons_self
    have ih := up_length (lo := i + 1) h2 fun x hm => ⟨by have := h1 x hm; omega, (hx x (List.mem_cons_of_mem _ hm)).2⟩
    rw [List.length_cons]
    omega
theorem Lot.length {n : Int} {ls : List Int} (h : Lot n ls) : (ls.length : Int) ≤ max 0 n := by
  have := up_length h.up h.ok
  omega
end FF
namespace FF
open PySem PySem.Spec PyProof.Rows L2
variable [LT]
/-! ### joined points: roots, labels, and how many are apart (plain mathematics) -/
theorem step_mem (acc : List Int) (x k : Int) : k ∈ step_dedup acc x ↔ k ∈ acc ∨ k = x := by
  unfold step_dedup
  split
  · rename_i h
    constructor
    · exact .inl
    · rintro (z | rfl)
      · exact z
      · simpa using h
  · simp
theorem step_nd {acc : List Int} (x : Int) (h : acc.Nodup) : (step_dedup acc x).Nodup := by
  unfold step_dedup
  split
  · exact h
  · rename_i hx
    rw [List.nodup_append]
    refine ⟨h, by simp, fun a ha b hb => ?_⟩
    rw [List.mem_singleton.mp hb]
    rintro rfl
    exact hx (by simpa using ha)
theorem fold_mem : ∀ (ns acc : List Int) (k : Int), k ∈ ns.foldl step_dedup acc ↔ k ∈ acc ∨ k ∈ ns
  | [], acc, k => by simp
  | x :: r, acc, k => by
    rw [List.foldl_cons, fold_mem r, step_mem, List.mem_cons, or_assoc]
theorem fold_nd : ∀ (ns acc : List Int), acc.Nodup → (ns.foldl step_dedup acc).Nodup
  | [], _, h => h
  | x :: r, acc, h => by
    rw [List.foldl_cons]
    exact fold_nd r _ (step_nd x h)
theorem mem_nub (ns : List Int) (k : Int) : k ∈ nub ns ↔ k ∈ ns := by
  unfold nub
  rw [fold_mem]
  simp
theorem nub_nd (ns : List Int) : (nub ns).Nodup := fold_nd ns [] List.nodup_nil
theorem nd_le : ∀ {l m : List Int}, l.Nodup → (∀ x ∈ l, x ∈ m) → l.length ≤ m.length
  | [], _, _, _ => Nat.zero_le _
  | x :: r, m, hd, hs => by
    obtain ⟨h1, h2⟩ := List.nodup_cons.mp hd
    have hx := hs x List.mem_cons_self
    have ih := nd_le (l := r) (m := m.erase x) h2 fun y hy => by
      have hne : y ≠ x := fun z => h1 (z ▸ hy)
      exact (List.mem_erase_of_ne hne).mpr (hs y (List.mem_cons_of_mem _ hy))
    rw [List.length_erase_of_mem hx] at ih
    have := List.length_pos_of_mem hx
    rw [List.length_cons]
    omega
theorem nd_eq {l m : List Int} (h1 : l.Nodup) (h2 : m.Nodup) (h : ∀ x, x ∈ l ↔ x ∈ m) : l.length = m.length :=
  Nat.le_antisymm (nd_le h1 fun x hx => (h x).mp hx) (nd_le h2 fun x hx => (h x).mpr hx)
/-- labels, two of them made one -/
def mrg (a b x : Int) : Int := if x = a ∨ x = b then min a b else x
end FF
namespace FF
open PySem PySem.Spec PyProof.Rows L2
variable [LT]
def rstep (r : Int → Int) (t : Int × Int) : Int → Int := fun x => if r x = r t.2 then r t.1 else r x
def ringlessF : (Int → Int) → List (Int × Int) → Bool
  | _, [] => true
  | r, t :: ts => if r t.1 = r t.2 then false else ringlessF (rstep r t) ts
def hat (hs : List Int) (x : Int) : Int := hs.getD x.toNat 0
def hstep (hs : List Int) (t : Int × Int) : List Int := hs.map (mrg (hat hs t.1) (hat hs t.2))
def headsF (hs : List Int) (ts : List (Int × Int)) : List Int := ts.foldl hstep hs
structure Ker (n : Int) (r : Int → Int) (hs : List Int) : Prop where
  len : (hs.length : Int) = n
  ker : ∀ x y, 0 ≤ x → x < n → 0 ≤ y → y < n → (r x = r y ↔ hat hs x = hat hs y)
theorem hat_map {hs : List Int} {f : Int → Int} {x : Int} (h0 : 0 ≤ x) (h1 : x < hs.length) : hat (hs.map f) x = f (hat hs x) := by
  have hx : x.toNat < hs.length := by omega
  unfold hat
  rw [List.getD_eq_getElem?_getD, List.getD_eq_getElem?_getD, List.getElem?_map, List.getElem?_eq_getElem hx]
  rfl
theorem hat_mem {hs : List Int} {x : Int} (h0 : 0 ≤ x) (h1 : x < hs.length) : hat hs x ∈ hs := by
  have hx : x.toNat < hs.length := by omega
  unfold hat
  rw [List.getD_eq_getElem?_getD, List.getElem?_eq_getElem hx]
  exact List.getElem_mem hx
theorem Ker.step {n : Int} {r : Int → Int} {hs : List Int} (k : Ker n r hs) {t : Int × Int} (h : 0 ≤ t.1 ∧ t.1 < t.2 ∧ t.2 < n) : Ker n (rstep r t) (hstep hs t) := by
  have hl := k.len
  refine ⟨by unfold hstep; rw [List.length_map]; exact hl, fun x y x0 x1 y0 y1 => ?_⟩
  unfold hstep
  rw [hat_map x0 (by omega), hat_map y0 (by omega)]
  have a1 := k.ker x y x0 x1 y0 y1
  have a2 := k.ker x t.1 x0 x1 h.1 (by omega)
  have a3 := k.ker x t.2 x0 x1 (by omega) h.2.2
  have a4 := k.ker y t.1 y0 y1 h.1 (by omega)
  have a5 := k.ker y t.2 y0 y1 (by omega) h.2.2
  have a6 := k.ker t.1 t.2 h.1 (by omega) (by omega) h.2.2
  unfold rstep mrg
  generalize r x = rx at *
  generalize r y = ry at *
  generalize r t.1 = ra at *
  generalize r t.2 = rb at *
  generalize hat hs x = hx at *
  generalize hat hs y = hy at *
  generalize hat hs t.1 = ha at *
  generalize hat hs t.2 = hb at *
  split <;> split <;> split <;> split <;> omega
def upTo (n : Int) : List Int := (List.range n.toNat).map fun (i : Nat) => (i : Int)
theorem upTo_length (n : Int) : (upTo n).length = n.toNat := by unfold upTo; rw [List.length_map, List.length_range]
theorem upTo_nd (n : Int) : (upTo n).Nodup := by
  unfold upTo
  rw [List.nodup_iff_pairwise_ne, List.pairwise_map]
  exact List.pairwise_lt_range.imp fun h => by omega
theorem hat_upTo {n x : Int} (h0 : 0 ≤ x) (h1 : x < n) : hat (upTo n) x = x := by
  have hx : x.toNat < (upTo n).length := by rw [upTo_length]; omega
  unfold hat
  rw [List.getD_eq_getElem?_getD, List.getElem?_eq_getElem hx]
  simp only [upTo, List.getElem_map, List.getElem_range, Option.getD_some]
  omega
theorem Ker.start {n : Int} (h : 0 ≤ n) : Ker n (fun x => x) (upTo n) := ⟨by rw [upTo_length]; omega, fun x y x0 x1 y0 y1 => by rw [hat_upTo x0 x1, hat_upTo y0 y1]⟩
end FF
namespace FF
open PySem PySem.Spec PyProof.Rows L2
variable [LT]
/-! ### leaders: each point leads to one nearer to its root -/
structure UF (n : Int) (ls : List Int) (r : Int → Int) (d : Int → Nat) : Prop where
  len : (ls.length : Int) = n
  rng : ∀ x, 0 ≤ x → x < n → 0 ≤ hat ls x ∧ hat ls x < n
  root : ∀ x, 0 ≤ x → x < n → r (hat ls x) = r x
  top : ∀ x, 0 ≤ x → x < n → hat ls x = x → r x = x
  down : ∀ x, 0 ≤ x → x < n → hat ls x ≠ x → d (hat ls x) < d x
  rr : ∀ x, 0 ≤ x → x < n → 0 ≤ r x ∧ r x < n ∧ hat ls (r x) = r x
theorem hat_set {ls : List Int} {i v x : Int} (h0 : 0 ≤ i) (h1 : i < ls.length) (x0 : 0 ≤ x) : hat (ls.set i.toNat v) x = if x = i then v else hat ls x := by
  unfold hat
  rw [List.getD_eq_getElem?_getD, List.getD_eq_getElem?_getD, List.getElem?_set]
  by_cases e : x = i
  · subst e
    rw [if_pos rfl, if_pos rfl, if_pos (by omega)]
    rfl
  · rw [if_neg e, if_neg (by omega)]
/-- halving the way -/
theorem UF.half {n : Int} {ls : List Int} {r : Int → Int} {d : Int → Nat} (u : UF n ls r d) {x : Int} (x0 : 0 ≤ x) (x1 : x < n) (hne : hat ls x ≠ x) : UF n (ls.set x.toNat (hat ls (hat ls x))) r d := by
  have hl := u.len
  obtain ⟨y0, y1⟩ := u.rng x x0 x1
  obtain ⟨z0, z1⟩ := u.rng _ y0 y1
  have hs : ∀ y, 0 ≤ y → hat (ls.set x.toNat (hat ls (hat ls x))) y = if y = x then hat ls (hat ls x) else hat ls y := fun y h => hat_set x0 (by omega) h
  have hrz : r (hat ls (hat ls x)) = r x := (u.root _ y0 y1).trans (u.root x x0 x1)
  have hdd : d (hat ls (hat ls x)) < d x := by
    have h1 := u.down x x0 x1 hne
    by_cases e : hat ls (hat ls x) = hat ls x
    · rw [e]; exact h1
    · have := u.down _ y0 y1 e
      omega
  refine ⟨by rw [List.length_set]; exact hl, fun y h0 h1 => ?_, fun y h0 h1 => ?_, fun y h0 h1 => ?_, fun y h0 h1 => ?_, fun y h0 h1 => ?_⟩
  · rw [hs y h0]
    split
    · exact ⟨z0, z1⟩
    · exact u.rng y h0 h1
  · rw [hs y h0]
    split
    · rename_i e
      rw [e]; exact hrz
    · exact u.root y h0 h1
  · rw [hs y h0]
    split
    · rename_i e
      intro q
      rw [e] at q
      rw [q] at hdd
      exact absurd hdd (Nat.lt_irrefl _)
    · exact u.top y h0 h1
  · rw [hs y h0]
    split
    · rename_i e
      rw [e]
      intro _
      exact hdd
    · exact u.down y h0 h1
  · obtain ⟨a0, a1, a2⟩ := u.rr y h0 h1
    refine ⟨a0, a1, ?_⟩
    rw [hs _ a0]
    split
    · rename_i e
      rw [e] at a2
      exact absurd a2 hne
    · exact a2
/-- two roots made one: b's under a's -/
theorem UF.join {n : Int} {ls : List Int} {r : Int → Int} {d : Int → Nat} (u : UF n ls r d) {a b : Int} (a0 : 0 ≤ a) (a1 : a < n) (b0 : 0 ≤ b) (b1 : b < n) : ∃ d', UF n (ls.set (r b).toNat (r a)) (rstep r (a, b)) d' := by
  have hl := u.len
  obtain ⟨p0, p1, p2⟩ := u.rr a a0 a1
  obtain ⟨q0, q1, q2⟩ := u.rr b b0 b1
  have rra : r (r a) = r a := u.top _ p0 p1 p2
  have rrb : r (r b) = r b := u.top _ q0 q1 q2
  have hs : ∀ y, 0 ≤ y → hat (ls.set (r b).toNat (r a)) y = if y = r b then r a else hat ls y := fun y h => hat_set q0 (by omega) h
  by_cases same : r a = r b
  · -- nothing changes
    have hh : ∀ y, 0 ≤ y → hat (ls.set (r b).toNat (r a)) y = hat ls y := fun y h => by
      rw [hs y h]
      split
      · rename_i e
        rw [e, q2, same]
      · rfl
    have hr : rstep r (a, b) = r := by
      funext y
      unfold rstep
      split
      · rename_i e
        rw [e]; exact same
      · rfl
    rw [hr]
    exact ⟨d, by rw [List.length_set]; exact hl, fun y h0 h1 => by rw [hh y h0]; exact u.rng y h0 h1, fun y h0 h1 => by rw [hh y h0]; exact u.root y h0 h1, fun y h0 h1 => by rw [hh y h0]; exact u.top y h0 h1, fun y h0 h1 => by rw [hh y h0]; exact u.down y h0 h1, fun y h0 h1 => by
      obtain ⟨x0, x1, x2⟩ := u.rr y h0 h1
      exact ⟨x0, x1, by rw [hh _ x0]; exact x2⟩⟩
  · refine ⟨fun y => if r y = r b then d y + d (r a) + 1 else d y, by rw [List.length_set]; exact hl, fun y h0 h1 => ?_, fun y h0 h1 => ?_, fun y h0 h1 => ?_, fun y h0 h1 => ?_, fun y h0 h1 => ?_⟩
    · rw [hs y h0]
      split
      · exact ⟨p0, p1⟩
      · exact u.rng y h0 h1
    · rw [hs y h0]
      have ry := u.root y h0 h1
      unfold rstep
      show (if r (if y = r b then r a else hat ls y) = r b then r a else r (if y = r b then r a else hat ls y)) = if r y = r b then r a else r y
      split
      · rename_i e
        rw [e, rra, rrb, if_neg same, if_pos rfl]
      · rw [ry]
    · rw [hs y h0]
      split
      · rename_i e
        intro q
        exact absurd (q.trans e) same
      · rename_i e
        intro q
        have := u.top y h0 h1 q
        unfold rstep
        show (if r y = r b then r a else r y) = y
        rw [this, if_neg e]
    · rw [hs y h0]
      have ry := u.root y h0 h1
      split
      · rename_i e
        intro _
        show (if r (r a) = r b then d (r a) + d (r a) + 1 else d (r a)) < if r y = r b then d y + d (r a) + 1 else d y
        rw [rra, if_neg same, e, rrb, if_pos rfl]
        omega
      · rename_i e
        intro q
        have := u.down y h0 h1 q
        show (if r (hat ls y) = r b then d (hat ls y) + d (r a) + 1 else d (hat ls y)) < if r y = r b then d y + d (r a) + 1 else d y
        rw [ry]
        split <;> omega
    · obtain ⟨x0, x1, x2⟩ := u.rr y h0 h1
      unfold rstep
      show 0 ≤ (if r y = r b then r a else r y) ∧ (if r y = r b then r a else r y) < n ∧ hat (ls.set (r b).toNat (r a)) (if r y = r b then r a else r y) = if r y = r b then r a else r y
      split
      · refine ⟨p0, p1, ?_⟩
        rw [hs _ p0, if_neg same]
        exact p2
      · rename_i e
        refine ⟨x0, x1, ?_⟩
        rw [hs _ x0, if_neg e]
        exact x2
theorem UF.start {n : Int} (h : 0 ≤ n) : UF n (upTo n) (fun x => x) (fun _ => 0) :=
  ⟨by rw [upTo_length]; omega, fun x h0 h1 => by rw [hat_upTo h0 h1]; exact ⟨h0, h1⟩, fun x h0 h1 => by rw [hat_upTo h0 h1], fun x _ _ _ => rfl, fun x h0 h1 q => absurd (hat_upTo h0 h1) q, fun x h0 h1 => ⟨h0, h1, hat_upTo h0 h1⟩⟩
theorem hat_at {ls : List Int} {x : Int} (h0 : 0 ≤ x) (h1 : x < ls.length) : atI (ls.map V.int) x = some (.int (hat ls x)) := by
  obtain ⟨v, _, hv, e⟩ := at_int h0 h1
  rw [e]
  unfold hat
  rw [List.getD_eq_getElem?_getD, hv]
  rfl
end FF
namespace FF
open PySem PySem.Spec PyProof.Rows L2
variable [LT]
/-! ### ties picked by their numbers -/
def pick (ts : List (Int × Int)) (ms : List Int) : List (Int × Int) := ms.map fun m => ts.getD m.toNat (0, 0)
theorem pick_append (ts : List (Int × Int)) (ms ks : List Int) : pick ts (ms ++ ks) = pick ts ms ++ pick ts ks := List.map_append
theorem pick_length (ts : List (Int × Int)) (ms : List Int) : (pick ts ms).length = ms.length := List.length_map ..
theorem getD_at {ts : List (Int × Int)} {m : Int} (h0 : 0 ≤ m) (h1 : m < ts.length) : ts[m.toNat]? = some (ts.getD m.toNat (0, 0)) := by
  have hx : m.toNat < ts.length := by omega
  rw [List.getD_eq_getElem?_getD, List.getElem?_eq_getElem hx]
  rfl
/-- the k-th of some ties, with its object -/
theorem Ties.at_ {H : Hp} {rs : List V} {ts : List (Int × Int)} (h : Ties H rs ts) {m : Int} (h0 : 0 ≤ m) (h1 : m < ts.length) : ∃ q, atI rs m = some (.ref q) ∧ H q = some (.tup [.int (ts.getD m.toNat (0, 0)).1, .int (ts.getD m.toNat (0, 0)).2]) := by
  have hx : m.toNat < rs.length := by rw [h.length]; omega
  obtain ⟨t, q, e1, e2, e3⟩ := h.get (List.getElem?_eq_getElem hx)
  rw [getD_at h0 h1] at e1
  cases e1
  refine ⟨q, ?_, e3⟩
  have e : ((m.toNat : Nat) : Int) = m := by omega
  have z := atI_nat (xs := rs) (j := m.toNat) ((List.getElem?_eq_getElem hx).trans (congrArg some e2))
  rw [e] at z
  exact z
def foldR (r : Int → Int) (ts : List (Int × Int)) : Int → Int := ts.foldl rstep r
theorem ringlessF_split : ∀ (us : List (Int × Int)) (r : Int → Int) (ws : List (Int × Int)), ringlessF r us = true → ringlessF r (us ++ ws) = ringlessF (foldR r us) ws
  | [], _, _, _ => rfl
  | t :: us, r, ws, h => by
    unfold ringlessF at h
    by_cases e : r t.1 = r t.2
    · rw [if_pos e] at h
      cases h
    · rw [if_neg e] at h
      show (if r t.1 = r t.2 then false else ringlessF (rstep r t) (us ++ ws)) = _
      rw [if_neg e]
      exact ringlessF_split us _ ws h
theorem ringlessF_bad : ∀ (us : List (Int × Int)) (r : Int → Int) (ws : List (Int × Int)), ringlessF r us = false → ringlessF r (us ++ ws) = false
  | [], _, _, h => by cases h
  | t :: us, r, ws, h => by
    unfold ringlessF at h
    by_cases e : r t.1 = r t.2
    · show (if r t.1 = r t.2 then false else ringlessF (rstep r t) (us ++ ws)) = _
      rw [if_pos e]
    · rw [if_neg e] at h
      show (if r t.1 = r t.2 then false else ringlessF (rstep r t) (us ++ ws)) = _
      rw [if_neg e]
      exact ringlessF_bad us _ ws h
theorem foldR_snoc (r : Int → Int) (us : List (Int × Int)) (t : Int × Int) : foldR r (us ++ [t]) = rstep (foldR r us) t := by
  unfold foldR
  rw [List.foldl_append]
  rfl
/-- one tie more -/
theorem ringlessF_more {us : List (Int × Int)} {r : Int → Int} (h : ringlessF r us = true) (t : Int × Int) : ringlessF r (us ++ [t]) = !decide (foldR r us t.1 = foldR r us t.2) := by
  rw [ringlessF_split us r _ h]
  show (if foldR r us t.1 = foldR r us t.2 then false else true) = _
  by_cases e : foldR r us t.1 = foldR r us t.2
  · rw [if_pos e, decide_eq_true e]
    rfl
  · rw [if_neg e, decide_eq_false e]
    rfl
theorem headsF_snoc (hs : List Int) (us : List (Int × Int)) (t : Int × Int) : headsF hs (us ++ [t]) = hstep (headsF hs us) t := by
  unfold headsF
  rw [List.foldl_append]
  rfl
theorem headsF_length (hs : List Int) : ∀ ts : List (Int × Int), (headsF hs ts).length = hs.length := fun ts => by
  induction ts generalizing hs with
  | nil => rfl
  | cons t ts ih =>
    show (headsF (hstep hs t) ts).length = _
    rw [ih]
    unfold hstep
    rw [List.length_map]
/-! ### rings -/
theorem upd_id {H : Hp} {a : Addr} {o : HO} (h : H a = some o) : upd H a o = H := by
  funext b
  by_cases e : b = a
  · rw [e, upd_same, h]
  · rw [upd_ne e]
theorem rgV_up (n : Int) : rgV 0 n = (upTo n).map V.int := rgV_ints n
theorem take_next {α : Type} {xs : List α} {i : Nat} {x : α} (h : xs[i]? = some x) : xs.take (i + 1) = xs.take i ++ [x] := by
  rw [List.take_add_one, h]
  rfl
theorem take_rest {α : Type} {xs : List α} {i : Nat} {x : α} (h : xs[i]? = some x) : xs = xs.take i ++ [x] ++ xs.drop (i + 1) := by
  rw [← take_next h, List.take_append_drop]
theorem Kx.put {S : Addr → Prop} {H H1 : Hp} {p : Addr} {o : HO} (k : Kx S H H1) (h : H p = none) : Kx S H (upd H1 p o) := k.over h
theorem upTo_snoc (n : Nat) : upTo ((n : Int) + 1) = upTo n ++ [(n : Int)] := by
  unfold upTo
  rw [show ((n : Int) + 1).toNat = n + 1 by omega, show ((n : Int)).toNat = n by omega, List.range_succ, List.map_append]
  rfl
theorem mem_upTo {n x : Int} (h : x ∈ upTo n) : 0 ≤ x ∧ x < n := by
  unfold upTo at h
  obtain ⟨j, hj, rfl⟩ := List.mem_map.mp h
  have := List.mem_range.mp hj
  omega
def but (g : Int) (ms : List Int) : List Int := ms.filter fun i => !decide (i = g)
/-! ### rows of ties' numbers -/
def IsRow (H : Hp) (m : Nat) (x : V) : Prop := ∃ (a : Addr) (ms : List Int), x = .ref a ∧ H a = some (.tup (ms.map V.int)) ∧ ms.length ≤ 1000 ∧ ∀ y ∈ ms, 0 ≤ y ∧ y < (m : Int)
theorem IsRow.mono {H H' : Hp} {m : Nat} {x : V} (h : IsRow H m x) (k : ∀ q xs, H q = some (.tup xs) → H' q = some (.tup xs)) : IsRow H' m x := by
  obtain ⟨a, ms, e, h1, h2⟩ := h
  exact ⟨a, ms, e, k _ _ h1, h2⟩
theorem IsRow.ke {H H' : Hp} {m : Nat} {x : V} (h : IsRow H m x) (k : Ke H H') : IsRow H' m x := h.mono fun _ _ => k.tup
theorem IsRow.dk {H H' : Hp} {p : Addr} {m : Nat} {x : V} (h : IsRow H m x) (k : Dk p H H') (d : Deck H p) : IsRow H' m x := h.mono fun _ _ => k.tup d
theorem IsRow.new {H : Hp} {p : Addr} {o : HO} {m : Nat} {x : V} (h : IsRow H m x) (k : H p = none) : IsRow (upd H p o) m x := h.mono fun _ _ => tup_new k
theorem IsRow.put {H : Hp} {p : Addr} {o : HO} {ys : List V} {m : Nat} {x : V} (h : IsRow H m x) (k : H p = some (.lst ys)) : IsRow (upd H p o) m x := h.mono fun q xs e => by rw [upd_ne (ne_of e k (fun z => nomatch z))]; exact e
structure Rows (H : Hp) (m : Nat) (xs : List V) : Prop where
  all : ∀ x ∈ xs, IsRow H m x
theorem Rows.nil {H : Hp} {m : Nat} : Rows H m [] := ⟨fun _ z => nomatch z⟩
theorem Rows.app {H : Hp} {m : Nat} {xs ys : List V} (a : Rows H m xs) (b : Rows H m ys) : Rows H m (xs ++ ys) := ⟨fun x hx => (List.mem_append.mp hx).elim (a.all x) (b.all x)⟩
theorem Rows.one {H : Hp} {m : Nat} {x : V} (a : IsRow H m x) : Rows H m [x] := ⟨fun y hy => by rw [List.mem_singleton.mp hy]; exact a⟩
theorem Rows.ke {H H' : Hp} {m : Nat} {xs : List V} (h : Rows H m xs) (k : Ke H H') : Rows H' m xs := ⟨fun x hx => (h.all x hx).ke k⟩
theorem Rows.dk {H H' : Hp} {p : Addr} {m : Nat} {xs : List V} (h : Rows H m xs) (k : Dk p H H') (d : Deck H p) : Rows H' m xs := ⟨fun x hx => (h.all x hx).dk k d⟩
theorem Rows.new {H : Hp} {p : Addr} {o : HO} {m : Nat} {xs : List V} (h : Rows H m xs) (k : H p = none) : Rows (upd H p o) m xs := ⟨fun x hx => (h.all x hx).new k⟩
theorem Rows.put {H : Hp} {p : Addr} {o : HO} {ys : List V} {m : Nat} {xs : List V} (h : Rows H m xs) (k : H p = some (.lst ys)) : Rows (upd H p o) m xs := ⟨fun x hx => (h.all x hx).put k⟩
theorem Rows.take {H : Hp} {m n : Nat} {xs : List V} (h : Rows H m xs) : Rows H m (xs.take n) := ⟨fun x hx => h.all x (List.mem_of_mem_take hx)⟩
end FF
namespace FF
open PySem PySem.Spec PyProof.Rows L2
variable [LT]
/-! ### enumerate of a tuple -/
section
variable {P : Program} {w : World} {A : Around} {E : Value → Shared → Prop} {s : Shared}
end
section
variable {X : Cx}
end
end FF
namespace FF
open PySem PySem.Spec PyProof.Rows L2
variable [LT]
/-! ### what is walked: a list or a tuple -/
section
variable {X : Cx}
end
section
variable {α : Type} {g : TG} {tt : TT} {te : TE} {vs : List Nat} {σ0 : L2.St} {yl : α → V → Hp → (α → Hp → Prop) → Prop} {dn : α → Hp → Prop} {H0 : Hp} {a0 : α} {J : It} {n : Nat} {Gd : Hp → Prop} {Y : Nat → Hp → V → Hp → Prop}
theorem gx_it (w : Walk J n Gd Y) (Pv : Nat → α → Hp → Prop) (h0 : Pv 0 a0 H0) (hG : ∀ i a H, i ≤ n → Pv i a H → Gd H)
    (hs : ∀ (i : Nat) x a H H', i < n → Pv i a H → Y i H x H' → g x σ0 H' fun σ2 H2 => wipe σ2 vs = σ0 ∧ tt σ2 H2 fun b H3 => if b = true then te σ2 H3 fun y H4 => yl a y H4 (Pv (i + 1)) else Pv (i + 1) a H3) (hd : ∀ a H, Pv n a H → dn a H) :
    ∃ W : Nat → Nat → α → Hp → Prop, (∃ m, W 0 m a0 H0) ∧ GxT J g tt te vs σ0 W yl dn := by
  refine ⟨fun i m a H => m = n - i ∧ i ≤ n ∧ Pv i a H, ⟨_, rfl, Nat.zero_le _, h0⟩, ?_⟩
  rintro i m a H ⟨rfl, hi, p⟩
  have ok := hG i a H hi p
  by_cases hlt : i < n
  · exact .inr ⟨w.goes i H hlt ok, Pv (i + 1), fun a' H' p' => ⟨n - (i + 1), by omega, rfl, hlt, p'⟩, fun x H1 y => hs i x a H H1 hlt p (w.yields i H x H1 hlt ok y)⟩
  · have e : i = n := by omega
    subst e
    exact .inl ⟨w.stops H ok, hd a H p⟩
end
section
variable {g : TG} {tt : TT} {te : TE} {vs : List Nat} {σ0 : L2.St} {yl : Unit → V → Hp → (Unit → Hp → Prop) → Prop} {dn : Unit → Hp → Prop} {H0 : Hp} {J : It} {n : Nat} {Gd : Hp → Prop} {Y : Nat → Hp → V → Hp → Prop}
end
end FF
namespace FF
open PySem PySem.Spec PyProof.Rows L2
variable [LT]
/-! ### ties by layers -/
def layerOf (ts : List (Int × Int)) (ws : List V) (f : Int) : List (Int × Int) := ((ts.zip ws).filter fun p => decide (p.2 = V.int f)).map Prod.fst
theorem layerOf_snoc {ts : List (Int × Int)} {ws : List V} (h : ts.length = ws.length) (t : Int × Int) (x : V) (f : Int) :
    layerOf (ts ++ [t]) (ws ++ [x]) f = layerOf ts ws f ++ if x = V.int f then [t] else [] := by
  unfold layerOf
  rw [List.zip_append h, List.filter_append, List.map_append]
  congr 1
  show (List.filter (fun p => decide (p.2 = V.int f)) [(t, x)]).map Prod.fst = _
  by_cases e : x = V.int f
  · rw [List.filter_cons_of_pos (p := fun p : (Int × Int) × V => decide (p.2 = V.int f)) (a := (t, x)) (decide_eq_true e), if_pos e]
    rfl
  · rw [List.filter_cons_of_neg (by rw [decide_eq_false e]; decide), if_neg e]
    rfl
theorem layerOf_none {ts : List (Int × Int)} {ws : List V} {f : Int} (h : ∀ x ∈ ws, x ≠ V.int f) : layerOf ts ws f = [] := by
  unfold layerOf
  rw [List.filter_eq_nil_iff.mpr fun p hp => ?_]
  · rfl
  · obtain ⟨u, x⟩ := p
    rw [decide_eq_false (h x (List.of_mem_zip hp).2)]
    decide
/-! ### first fit -/
def freeB (ts : List (Int × Int)) (ws : List V) (t : Int × Int) (f : Int) : Bool := ringlessF (fun x => x) (layerOf ts ws f ++ [t])
inductive FFat (k : Int) (ts : List (Int × Int)) (ws : List V) (t : Int × Int) : V → Prop where
  | out : (∀ f, 0 ≤ f → f < k → freeB ts ws t f = false) → FFat k ts ws t .non
  | at_ {f : Int} : 0 ≤ f → f < k → freeB ts ws t f = true → (∀ g, 0 ≤ g → g < f → freeB ts ws t g = false) → FFat k ts ws t (.int f)
structure FF (k : Int) (ts : List (Int × Int)) (ws : List V) : Prop where
  len : ws.length = ts.length
  each : ∀ i t x, ts[i]? = some t → ws[i]? = some x → FFat k (ts.take i) (ws.take i) t x
theorem FF.nil {k : Int} : FF k [] [] := ⟨rfl, fun i t x h => by simp at h⟩
theorem FF.low {k : Int} {ts : List (Int × Int)} {ws : List V} (h : FF k ts ws) (hne : ∀ t ∈ ts, t.1 ≠ t.2) : ∀ (i : Nat) (f : Int), ws[i]? = some (V.int f) → f ≤ (i : Int) := by
  intro i
  induction i using Nat.strongRecOn with
  | _ i ih =>
    intro f hf
    have hi := (List.getElem?_eq_some_iff.mp hf).1
    have hit : i < ts.length := by rw [← h.len]; exact hi
    have ht := List.getElem?_eq_getElem hit
    have hx := h.each i _ _ ht hf
    by_cases c : f ≤ (i : Int)
    · exact c
    · cases hx with
      | at_ h0 h1 h2 h3 =>
        have z := h3 (i : Int) (by omega) (by omega)
        unfold freeB at z
        rw [layerOf_none] at z
        · have hn := hne _ (List.getElem_mem hit)
          show f ≤ _
          rw [List.nil_append] at z
          exact absurd z (by
            show ¬ (if _ = _ then false else true) = false
            rw [if_neg hn]
            decide)
        · intro x hx e
          obtain ⟨j, hj⟩ := List.getElem?_of_mem hx
          have hjl := (List.getElem?_eq_some_iff.mp hj).1
          rw [List.length_take] at hjl
          rw [List.getElem?_take_of_lt (by omega)] at hj
          rw [e] at hj
          have := ih j (by omega) _ hj
          omega
/-- forest i is empty when the i-th tie comes -/
theorem FF.empty {k : Int} {ts : List (Int × Int)} {ws : List V} (h : FF k ts ws) (hne : ∀ t ∈ ts, t.1 ≠ t.2) {i : Nat} {t : Int × Int} (ht : ts[i]? = some t) : freeB (ts.take i) (ws.take i) t (i : Int) = true := by
  have hi := (List.getElem?_eq_some_iff.mp ht).1
  unfold freeB
  rw [layerOf_none]
  · rw [List.nil_append]
    show (if _ = _ then false else true) = true
    rw [if_neg (hne _ (List.mem_of_getElem? ht))]
  · intro x hx e
    obtain ⟨j, hj⟩ := List.getElem?_of_mem hx
    have hjl := (List.getElem?_eq_some_iff.mp hj).1
    rw [List.length_take] at hjl
    rw [List.getElem?_take_of_lt (by omega), e] at hj
    have := h.low hne j _ hj
    omega
theorem first_of {p : Int → Bool} {f m : Int} (h0 : 0 ≤ f) (h1 : f < m) (hp : p f = true) (hq : ∀ g, 0 ≤ g → g < f → p g = false) : ∃ r, (upTo m).filter p = f :: r := by
  have e : upTo m = upTo f ++ (f :: (upTo m).drop (f.toNat + 1)) := by
    have hf : (upTo m)[f.toNat]? = some f := by
      unfold upTo
      rw [List.getElem?_map, List.getElem?_range (by omega)]
      show some ((f.toNat : Nat) : Int) = some f
      rw [show ((f.toNat : Nat) : Int) = f by omega]
    have ht : (upTo m).take f.toNat = upTo f := by
      unfold upTo
      rw [← List.map_take, List.take_range, Nat.min_eq_left (by omega)]
    have z := take_rest hf
    rw [ht, List.append_assoc] at z
    exact z
  rw [e, List.filter_append, List.filter_eq_nil_iff.mpr fun g hg => by rw [hq g (mem_upTo hg).1 (mem_upTo hg).2]; decide, List.filter_cons_of_pos hp]
  exact ⟨_, rfl⟩
theorem FF.head {k : Int} {ts : List (Int × Int)} {ws : List V} (h : FF k ts ws) (hne : ∀ t ∈ ts, t.1 ≠ t.2) {i : Nat} {t : Int × Int} {x : V} (ht : ts[i]? = some t) (hx : ws[i]? = some x) :
    ∃ r, (((upTo (min k ((i : Int) + 1))).filter (freeB (ts.take i) (ws.take i) t)).map V.int) ++ [V.non] = x :: r := by
  have c := h.each i t x ht hx
  cases c with
  | out z =>
    rw [List.filter_eq_nil_iff.mpr fun g hg => by rw [z g (mem_upTo hg).1 (by have := (mem_upTo hg).2; omega)]; decide]
    exact ⟨[], rfl⟩
  | @at_ f h0 h1 h2 h3 =>
    have l := h.low hne i f hx
    obtain ⟨r, e⟩ := first_of (m := min k ((i : Int) + 1)) h0 (by omega) h2 h3
    rw [e]
    exact ⟨_, rfl⟩
theorem FF.ints {k : Int} {ts : List (Int × Int)} {ws : List V} (h : FF k ts ws) (hne : ∀ t ∈ ts, t.1 ≠ t.2) (hk : (ts.length : Int) ≤ k) : ∃ ns : List Int, ws = ns.map V.int := by
  refine ⟨ws.map fun v => match v with | .int i => i | _ => 0, ?_⟩
  rw [List.map_map]
  conv => lhs; rw [← List.map_id ws]
  refine List.map_congr_left fun x hx => ?_
  obtain ⟨i, hi⟩ := List.getElem?_of_mem hx
  have hil := (List.getElem?_eq_some_iff.mp hi).1
  have hit : i < ts.length := by rw [← h.len]; exact hil
  have ht := List.getElem?_eq_getElem hit
  have c := h.each i _ x ht hi
  cases c with
  | out z =>
    have e := h.empty hne ht
    rw [z _ (by omega) (by omega)] at e
    cases e
  | at_ => rfl
/-! ### several forests of leaders -/
theorem Ke.and {S : Addr → Prop} {H H1 H2 : Hp} (a : Ke H H1) (b : Kx S H1 H2) (h : ∀ x, S x → H x = none) : Ke H H2 := by
  refine ⟨fun c o e n q => b.at_ c o (a.at_ c o e n q) n fun z => ?_, fun c t => b.tab c (a.tab c t), fun c e => a.dom c (b.dom c e), fun c ps l q e => b.lam c ps l (fun z => ?_) (a.lam c ps l (fun z => z) e)⟩
  · rw [h c z] at e
    cases e
  · rw [h c z] at e
    cases e
theorem freeB_eq {ts : List (Int × Int)} {ws : List V} {t : Int × Int} {f : Int} (h : ringlessF (fun x => x) (layerOf ts ws f) = true) : freeB ts ws t f = !decide (foldR (fun x => x) (layerOf ts ws f) t.1 = foldR (fun x => x) (layerOf ts ws f) t.2) := ringlessF_more h t
end FF
namespace FF
open PySem PySem.Spec PyProof.Rows L2
variable [LT]
/-! ### the numbers of the ties of a forest -/
def numsFrom (f : Int) : Nat → List V → List Int
  | _, [] => []
  | i, x :: r => (if x = V.int f then [(i : Int)] else []) ++ numsFrom f (i + 1) r
theorem nums_snoc (f : Int) : ∀ (i : Nat) (ws : List V) (x : V), numsFrom f i (ws ++ [x]) = numsFrom f i ws ++ if x = V.int f then [((i + ws.length : Nat) : Int)] else []
  | i, [], x => by
    show (if x = V.int f then [(i : Int)] else []) ++ [] = [] ++ _
    rw [List.append_nil, List.nil_append]
    rfl
  | i, y :: ws, x => by
    show _ ++ numsFrom f (i + 1) (ws ++ [x]) = _
    rw [nums_snoc f (i + 1) ws x, ← List.append_assoc]
    show _ = ((if y = V.int f then [(i : Int)] else []) ++ numsFrom f (i + 1) ws) ++ _
    rw [List.length_cons, show i + 1 + ws.length = i + (ws.length + 1) by omega]
theorem nums_bd (f : Int) : ∀ (i : Nat) (ws : List V), ∀ m ∈ numsFrom f i ws, (i : Int) ≤ m ∧ m < ((i + ws.length : Nat) : Int)
  | i, [], m, h => nomatch h
  | i, y :: ws, m, h => by
    rcases List.mem_append.mp h with h | h
    · by_cases e : y = V.int f
      · rw [if_pos e] at h
        rw [List.mem_singleton.mp h, List.length_cons]
        omega
      · rw [if_neg e] at h
        cases h
    · have := nums_bd f (i + 1) ws m h
      rw [List.length_cons]
      omega
theorem nums_length (f : Int) : ∀ (i : Nat) (ws : List V), (numsFrom f i ws).length ≤ ws.length
  | _, [] => Nat.le_refl _
  | i, y :: ws => by
    have := nums_length f (i + 1) ws
    show ((if y = V.int f then [(i : Int)] else []) ++ numsFrom f (i + 1) ws).length ≤ ws.length + 1
    rw [List.length_append]
    split
    · show 1 + _ ≤ _
      omega
    · show 0 + _ ≤ _
      omega
theorem pick_nums (f : Int) : ∀ (pre ts : List (Int × Int)) (ws : List V), ts.length = ws.length → pick (pre ++ ts) (numsFrom f pre.length ws) = layerOf ts ws f
  | pre, [], [], _ => rfl
  | pre, t :: ts, x :: ws, h => by
    have ih := pick_nums f (pre ++ [t]) ts ws (by simpa using h)
    rw [List.append_assoc, List.length_append] at ih
    show pick (pre ++ t :: ts) ((if x = V.int f then [(pre.length : Int)] else []) ++ numsFrom f (pre.length + 1) ws) = _
    rw [pick_append]
    have e1 : pick (pre ++ t :: ts) (numsFrom f (pre.length + 1) ws) = layerOf ts ws f := ih
    rw [e1]
    have e2 : layerOf (t :: ts) (x :: ws) f = (if x = V.int f then [t] else []) ++ layerOf ts ws f := by
      unfold layerOf
      rw [List.zip_cons_cons]
      by_cases e : x = V.int f
      · rw [List.filter_cons_of_pos (p := fun p : (Int × Int) × V => decide (p.2 = V.int f)) (a := (t, x)) (decide_eq_true e), if_pos e]
        rfl
      · rw [List.filter_cons_of_neg (p := fun p : (Int × Int) × V => decide (p.2 = V.int f)) (a := (t, x)) (by rw [decide_eq_false e]; decide), if_neg e]
        rfl
    rw [e2]
    congr 1
    by_cases e : x = V.int f
    · rw [if_pos e, if_pos e]
      show [(pre ++ t :: ts).getD ((pre.length : Int)).toNat (0, 0)] = [t]
      rw [show ((pre.length : Int)).toNat = pre.length by omega, List.getD_eq_getElem?_getD, List.getElem?_append_right (Nat.le_refl _), Nat.sub_self]
      rfl
    · rw [if_neg e, if_neg e]
      rfl
/-! ### ties by forest, in a dict -/
def kvF (fl : List (Int × Addr)) : List (Key × V) := fl.map fun p => (Sum.inl p.1, V.ref p.2)
structure Byf (H : Hp) (ws : List V) (fl : List (Int × Addr)) : Prop where
  nd : (fl.map Prod.fst).Nodup
  na : (fl.map Prod.snd).Nodup
  each : ∀ p ∈ fl, H p.2 = some (.lst ((numsFrom p.1 0 ws).map V.int))
  mem : ∀ f, V.int f ∈ ws ↔ f ∈ fl.map Prod.fst
theorem Byf.ke {H H' : Hp} {ws : List V} {fl : List (Int × Addr)} (h : Byf H ws fl) (k : Ke H H') : Byf H' ws fl := ⟨h.nd, h.na, fun p hp => k.lst (h.each p hp), h.mem⟩
theorem val_in : ∀ {fl : List (Int × Addr)} {f : Int} {q : Addr}, (fl.map Prod.fst).Nodup → (f, q) ∈ fl → valV (kvF fl) (Sum.inl f) = some (.ref q)
  | p :: fl, f, q, nd, h => by
    rw [List.map_cons, List.nodup_cons] at nd
    rcases List.mem_cons.mp h with h | h
    · rw [← h]
      exact valV_pos rfl
    · have hne : p.1 ≠ f := fun z => nd.1 (z ▸ List.mem_map.mpr ⟨(f, q), h, rfl⟩)
      exact (valV_neg (p := (Sum.inl p.1, V.ref p.2)) (r := kvF fl) fun z => hne (Sum.inl.inj z)).trans (val_in nd.2 h)
theorem val_out {fl : List (Int × Addr)} {f : Int} (h : f ∉ fl.map Prod.fst) : valV (kvF fl) (Sum.inl f) = none := by
  unfold valV kvF
  rw [List.find?_eq_none.mpr fun x hx => ?_]
  · rfl
  · obtain ⟨p, hp, rfl⟩ := List.mem_map.mp hx
    rw [decide_eq_false fun z => h (List.mem_map.mpr ⟨p, hp, Sum.inl.inj z⟩)]
    decide
theorem put_out {fl : List (Int × Addr)} {f : Int} {q : Addr} (h : f ∉ fl.map Prod.fst) : putK (kvF fl) (Sum.inl f) (.ref q) = kvF (fl ++ [(f, q)]) := by
  unfold putK
  rw [valV_any, val_out h]
  show kvF fl ++ [(Sum.inl f, V.ref q)] = kvF (fl ++ [(f, q)])
  unfold kvF
  rw [List.map_append]
  rfl
theorem kvF_length (fl : List (Int × Addr)) : (kvF fl).length = fl.length := List.length_map ..
/-- one more of a forest that has some -/
theorem Byf.more {H : Hp} {ws : List V} {fl : List (Int × Addr)} (h : Byf H ws fl) {f : Int} {q : Addr} (hq : (f, q) ∈ fl) : Byf (upd H q (.lst ((numsFrom f 0 ws).map V.int ++ [.int ws.length]))) (ws ++ [.int f]) fl := by
  refine ⟨h.nd, h.na, fun p hp => ?_, fun g => ?_⟩
  · rw [nums_snoc]
    by_cases e : p.1 = f
    · have e2 : p = (f, q) := by
        have n := h.nd
        have a1 := val_in n (show (p.1, p.2) ∈ fl from hp)
        have a2 := val_in n hq
        rw [e, a2] at a1
        have := Option.some.inj a1
        cases this
        exact Prod.ext e rfl
      rw [e2, upd_same, if_pos rfl, List.map_append, Nat.zero_add]
      rfl
    · have hne : p.2 ≠ q := fun z => by
        have n := h.na
        obtain ⟨i, hi⟩ := List.getElem?_of_mem hp
        obtain ⟨j, hj⟩ := List.getElem?_of_mem hq
        obtain ⟨li, ei⟩ := List.getElem?_eq_some_iff.mp hi
        obtain ⟨lj, ej⟩ := List.getElem?_eq_some_iff.mp hj
        have z2 : (fl.map Prod.snd)[i]'(by rw [List.length_map]; exact li) = (fl.map Prod.snd)[j]'(by rw [List.length_map]; exact lj) := by
          rw [List.getElem_map, List.getElem_map, ei, ej]
          exact z
        have ij := (List.getElem_inj n).mp z2
        subst ij
        rw [ei] at ej
        exact e (congrArg Prod.fst ej)
      rw [upd_ne hne, if_neg (fun z => e (V.int.inj z).symm), List.append_nil]
      exact h.each p hp
  · rw [List.mem_append, h.mem g]
    refine ⟨fun z => z.elim id fun z => ?_, .inl⟩
    have := V.int.inj (List.mem_singleton.mp z)
    rw [this]
    exact List.mem_map.mpr ⟨_, hq, rfl⟩
theorem nums_none {f : Int} : ∀ {i : Nat} {ws : List V}, V.int f ∉ ws → numsFrom f i ws = []
  | _, [], _ => rfl
  | i, x :: ws, h => by
    show (if x = V.int f then [(i : Int)] else []) ++ numsFrom f (i + 1) ws = []
    rw [if_neg (show ¬ x = V.int f from fun z => h (z ▸ List.mem_cons_self)), nums_none fun z => h (List.mem_cons_of_mem _ z)]
    rfl
/-- the first of a forest -/
theorem Byf.first {H : Hp} {ws : List V} {fl : List (Int × Addr)} (h : Byf H ws fl) {f : Int} {q : Addr} (hf : f ∉ fl.map Prod.fst) (hq : q ∉ fl.map Prod.snd) : Byf (upd H q (.lst [.int ws.length])) (ws ++ [.int f]) (fl ++ [(f, q)]) := by
  refine ⟨?_, ?_, fun p hp => ?_, fun g => ?_⟩
  · rw [List.map_append, List.nodup_append]
    exact ⟨h.nd, by simp, fun x hx y hy => by rw [List.mem_singleton.mp hy]; exact fun (z : x = f) => hf (z ▸ hx)⟩
  · rw [List.map_append, List.nodup_append]
    exact ⟨h.na, by simp, fun x hx y hy => by rw [List.mem_singleton.mp hy]; exact fun (z : x = q) => hq (z ▸ hx)⟩
  · rw [nums_snoc]
    rcases List.mem_append.mp hp with hp | hp
    · have e1 : p.1 ≠ f := fun z => hf (z ▸ List.mem_map.mpr ⟨p, hp, rfl⟩)
      have e2 : p.2 ≠ q := fun z => hq (z ▸ List.mem_map.mpr ⟨p, hp, rfl⟩)
      rw [upd_ne e2, if_neg (fun z => e1 (V.int.inj z).symm), List.append_nil]
      exact h.each p hp
    · rw [List.mem_singleton.mp hp, upd_same, if_pos rfl, nums_none (fun z => hf ((h.mem f).mp z)), Nat.zero_add]
      rfl
  · rw [List.mem_append, h.mem g, List.map_append, List.mem_append]
    refine ⟨fun z => z.elim .inl fun z => .inr ?_, fun z => z.elim .inl fun z => .inr ?_⟩
    · rw [V.int.inj (List.mem_singleton.mp z)]
      exact List.mem_singleton.mpr rfl
    · rw [show g = f from List.mem_singleton.mp z]
      exact List.mem_singleton.mpr rfl
theorem Byf.off {H : Hp} {ws : List V} {fl : List (Int × Addr)} {d : Addr} {o : HO} (h : Byf H ws fl) (hd : d ∉ fl.map Prod.snd) : Byf (upd H d o) ws fl :=
  ⟨h.nd, h.na, fun p hp => by rw [upd_ne (show p.2 ≠ d from fun z => hd (z ▸ List.mem_map.mpr ⟨p, hp, rfl⟩))]; exact h.each p hp, h.mem⟩
end FF
namespace FF
open PySem PySem.Spec PyProof.Rows L2
variable [LT]
/-! ### layings -/
def okE (k : Int) (x : V) : Bool := match x with
  | .non => true
  | v => isNum v 0 (k - 1)
def treeB (ts : List (Int × Int)) (ws : List V) (x : V) : Bool := match x with
  | .int f => ringlessF (fun x => x) (layerOf ts ws f)
  | _ => true
def layO (ts : List (Int × Int)) (k : Int) : Option (List V) → Bool
  | none => false
  | some ws => (decide (ws.length = ts.length) && ws.all (okE k)) && ws.all (treeB ts ws)
theorem layO_good {ts : List (Int × Int)} {k : Int} {ws : List V} (hl : ws.length = ts.length) (ho : ∀ x ∈ ws, okE k x = true) (h : ∀ f, V.int f ∈ ws → ringlessF (fun x => x) (layerOf ts ws f) = true) : layO ts k (some ws) = true := by
  show ((decide (ws.length = ts.length) && ws.all (okE k)) && ws.all (treeB ts ws)) = true
  rw [decide_eq_true hl, List.all_eq_true.mpr ho, List.all_eq_true.mpr fun x hx => ?_]
  · rfl
  · cases x with
    | int f => exact h f hx
    | _ => rfl
end FF
namespace FF
open PySem PySem.Spec PyProof.Rows L2
variable [LT]
/-! ### what first fit tells is a laying -/
theorem FF.forest {k : Int} {ts : List (Int × Int)} {ws : List V} (h : FF k ts ws) (f : Int) : ringlessF (fun x => x) (layerOf ts ws f) = true := by
  have hl := h.len
  have z : ∀ i, i ≤ ts.length → ringlessF (fun x => x) (layerOf (ts.take i) (ws.take i) f) = true := by
    intro i
    induction i with
    | zero => intro _; rfl
    | succ i ih =>
      intro hi
      have h1 : ts[i]? = some ts[i] := List.getElem?_eq_getElem (by omega)
      have h2 : ws[i]? = some ws[i] := List.getElem?_eq_getElem (by omega)
      have c := h.each i _ _ h1 h2
      rw [take_next h1, take_next h2, layerOf_snoc (by rw [List.length_take, List.length_take]; omega)]
      by_cases e : ws[i] = V.int f
      · rw [if_pos e]
        rw [e] at c
        cases c with
        | at_ _ _ h3 _ => exact h3
      · rw [if_neg e, List.append_nil]
        exact ih (by omega)
  have := z ts.length (Nat.le_refl _)
  rw [List.take_length, ← hl, List.take_length] at this
  exact this
theorem okE_int {k f : Int} (h0 : 0 ≤ f) (h1 : f < k) : okE k (.int f) = true := by
  show (decide (0 ≤ f) && decide (f ≤ k - 1)) = true
  rw [decide_eq_true h0, decide_eq_true (by omega)]
  rfl
theorem FF.lay {k : Int} {ts : List (Int × Int)} {ws : List V} (h : FF k ts ws) : layO ts k (some ws) = true :=
  layO_good h.len (fun x hx => by
    obtain ⟨i, hi⟩ := List.getElem?_of_mem hx
    have hil := (List.getElem?_eq_some_iff.mp hi).1
    have hit : i < ts.length := by rw [← h.len]; exact hil
    have c := h.each i _ x (List.getElem?_eq_getElem hit) hi
    cases c with
    | out => rfl
    | at_ h0 h1 => exact okE_int h0 h1) fun f _ => h.forest f
end FF
namespace FF
open PySem PySem.Spec PyProof.Rows L2
variable [LT]
/-! ### a tuple against the empty tuple -/
section
variable {X : Cx} {K : PySem.W.Frag}
end
/-! ### things of any kind, kept -/
theorem TyN.ke {H H' : Hp} {v : V} {n : String} (h : TyN H v n) (k : Ke H H') : TyN H' v n := by
  cases h with
  | non => exact .non
  | bl b => exact .bl b
  | int i => exact .int i
  | str z => exact .str z
  | lst h => exact .lst (k.lst h)
  | tup h => exact .tup (k.tup h)
  | dic h => exact .dic (k.at_ _ _ h (fun _ z => nomatch z) fun z => z)
theorem TyN.new {H : Hp} {p : Addr} {o : HO} {v : V} {n : String} (h : TyN H v n) (k : H p = none) : TyN (upd H p o) v n := h.ke (Ke.new k)
theorem TyN.put {H : Hp} {p : Addr} {xs ys : List V} {v : V} {n : String} (h : TyN H v n) (k : H p = some (.lst xs)) : TyN (upd H p (.lst ys)) v n := by
  cases h with
  | non => exact .non
  | bl b => exact .bl b
  | int i => exact .int i
  | str z => exact .str z
  | @lst a zs h =>
    by_cases e : a = p
    · exact .lst (xs := ys) (by rw [e]; exact upd_same)
    · exact .lst (by rw [upd_ne e]; exact h)
  | tup h => exact .tup (by rw [upd_ne (ne_of h k (fun z => nomatch z))]; exact h)
  | dic h => exact .dic (by rw [upd_ne (ne_of h k (fun z => nomatch z))]; exact h)
theorem TyN.dk {H H' : Hp} {p : Addr} {v : V} {n : String} (h : TyN H v n) (k : Dk p H H') (d : Deck H p) : TyN H' v n := by
  obtain ⟨ds, hp, _⟩ := d
  cases h with
  | non => exact .non
  | bl b => exact .bl b
  | int i => exact .int i
  | str z => exact .str z
  | @lst a zs h =>
    by_cases e : a = p
    · obtain ⟨ds', hp', _⟩ := k.d
      exact .lst (xs := ds'.map V.int) (by rw [e]; exact hp')
    · exact .lst (k.lst h e)
  | tup h => exact .tup (k.k.tup h (ne_of h hp (fun z => nomatch z)))
  | dic h => exact .dic (k.k.at_ _ _ h (fun _ z => nomatch z) (ne_of h hp (fun z => nomatch z)))
theorem Tpl.mono {H H' : Hp} {v : V} {o : Option (List V)} (h : Tpl H v o) (k : ∀ q xs, H q = some (.tup xs) → H' q = some (.tup xs)) (y : ∀ v n, TyN H v n → TyN H' v n) : Tpl H' v o := by
  cases h with
  | yes h hx => exact .yes (k _ _ h) fun x hm => (hx x hm).elim fun n hn => ⟨n, y _ _ hn⟩
  | no h hn => exact .no (y _ _ h) hn
theorem Tpl.ke {H H' : Hp} {v : V} {o : Option (List V)} (h : Tpl H v o) (k : Ke H H') : Tpl H' v o := h.mono (fun _ _ => k.tup) fun _ _ z => z.ke k
end FF
namespace FF
open PySem PySem.Spec PyProof.Rows L2
variable [LT]
/-! ### t[::-1] of a tuple -/
section
variable {prog : Program} {w : World} {A : Around} {E : Value → Shared → Prop} {s : Shared}
end
section
variable {X : Cx}
end
end FF
namespace FF
open PySem PySem.Spec PyProof.Rows L2
variable [LT]
/-! ### data: shapes and equality -/
structure Sh (k : Nat) (d : PyData) : Prop where
  lay : d.canLay0 = true
  dep : d.depth ≤ k
theorem Sh.shaped {k : Nat} {d : PyData} (h : Sh k d) (hk : k ≤ 64 := by decide) : SeqAt.shaped d = true := by
  unfold SeqAt.shaped
  rw [h.lay, decide_eq_true (Nat.le_trans h.dep hk)]
  rfl
theorem Sh.int {i : Int} : Sh 0 (.int i) := ⟨rfl, Nat.le_refl _⟩
theorem Sh.none : Sh 0 .none := ⟨rfl, Nat.le_refl _⟩
theorem Sh.bool {b : Bool} : Sh 0 (.bool b) := ⟨rfl, Nat.le_refl _⟩
theorem sh_all {k : Nat} : ∀ {ds : List PyData}, (∀ d ∈ ds, Sh k d) → PyData.canLayAll0 ds = true ∧ PyData.depthAll ds ≤ k
  | [], _ => ⟨rfl, Nat.zero_le _⟩
  | d :: r, h => by
    obtain ⟨h1, h2⟩ := sh_all (ds := r) fun x hx => h x (List.mem_cons_of_mem _ hx)
    have h3 := h d List.mem_cons_self
    refine ⟨?_, ?_⟩
    · show (d.canLay0 && PyData.canLayAll0 r) = true
      rw [h3.lay, h1]
      rfl
    · show max d.depth (PyData.depthAll r) ≤ k
      exact Nat.max_le.mpr ⟨h3.dep, h2⟩
theorem Sh.tup {k : Nat} {ds : List PyData} (h : ∀ d ∈ ds, Sh k d) : Sh (k + 1) (.tuple ds) := ⟨(sh_all h).1, Nat.succ_le_succ (sh_all h).2⟩
theorem Sh.lst {k : Nat} {ds : List PyData} (h : ∀ d ∈ ds, Sh k d) : Sh (k + 1) (.list ds) := ⟨(sh_all h).1, Nat.succ_le_succ (sh_all h).2⟩
end FF
namespace FF
open PySem PySem.Spec PyProof.Rows L2
variable [LT]
/-! ### pieces -/
theorem upTo_mem {n x : Int} : x ∈ upTo n ↔ 0 ≤ x ∧ x < n := by
  refine ⟨mem_upTo, fun ⟨h0, h1⟩ => ?_⟩
  unfold upTo
  exact List.mem_map.mpr ⟨x.toNat, List.mem_range.mpr (by omega), by omega⟩
theorem upTo_up (n : Int) : (upTo n).Pairwise (· < ·) := by
  unfold upTo
  rw [List.pairwise_map]
  exact List.pairwise_lt_range.imp fun h => by omega
theorem nub_snoc (l : List Int) (a : Int) : nub (l ++ [a]) = step_dedup (nub l) a := by
  unfold nub
  rw [List.foldl_append]
  rfl
def least (g : Int → Int) (x : Int) : Bool := (upTo x).all fun y => !decide (g y = g x)
def mins (g : Int → Int) (n : Int) : List Int := (upTo n).filter (least g)
def piece (g : Int → Int) (n x : Int) : List Int := (upTo n).filter fun y => decide (g y = g x)
def piecesF (g : Int → Int) (n : Int) : List (List Int) := (mins g n).map (piece g n)
theorem least_iff {g : Int → Int} {x : Int} : least g x = true ↔ ∀ y, 0 ≤ y → y < x → g y ≠ g x := by
  unfold least
  rw [List.all_eq_true]
  refine ⟨fun h y h0 h1 e => ?_, fun h y hy => ?_⟩
  · have := h y (upTo_mem.mpr ⟨h0, h1⟩)
    rw [decide_eq_true e] at this
    cases this
  · have := h y (mem_upTo hy).1 (mem_upTo hy).2
    rw [decide_eq_false this]
    rfl
theorem nub_mins (g : Int → Int) : ∀ n : Nat, nub ((upTo n).map g) = (mins g n).map g
  | 0 => rfl
  | n + 1 => by
    have e : ((n + 1 : Nat) : Int) = (n : Int) + 1 := by omega
    have ih := nub_mins g n
    rw [e, upTo_snoc, List.map_append, List.map_cons, List.map_nil, nub_snoc]
    have em : mins g ((n : Int) + 1) = mins g n ++ if least g n = true then [(n : Int)] else [] := by
      unfold mins
      rw [upTo_snoc, List.filter_append]
      congr 1
      rw [List.filter_cons, List.filter_nil]
    rw [em]
    by_cases h : g n ∈ nub ((upTo n).map g)
    · have hl : ¬ least g n = true := fun z => by
        rw [mem_nub, List.mem_map] at h
        obtain ⟨y, hy, ey⟩ := h
        exact least_iff.mp z y (mem_upTo hy).1 (mem_upTo hy).2 ey
      rw [if_neg hl, List.append_nil, ← ih]
      unfold step_dedup
      rw [if_pos (by simpa using h)]
    · have hl : least g n = true := least_iff.mpr fun y h0 h1 e => h (by rw [mem_nub, List.mem_map]; exact ⟨y, upTo_mem.mpr ⟨h0, h1⟩, e⟩)
      rw [if_pos hl, List.map_append, ← ih]
      unfold step_dedup
      rw [if_neg (by simpa using h)]
      rfl
theorem mins_mem {g : Int → Int} {n x : Int} : x ∈ mins g n ↔ (0 ≤ x ∧ x < n) ∧ least g x = true := by
  unfold mins
  rw [List.mem_filter, upTo_mem]
theorem mins_up (g : Int → Int) (n : Int) : (mins g n).Pairwise (· < ·) := (upTo_up n).filter _
theorem piecesF_ker {g g' : Int → Int} {n : Int} (h : ∀ x y, 0 ≤ x → x < n → 0 ≤ y → y < n → (g x = g y ↔ g' x = g' y)) : piecesF g n = piecesF g' n := by
  unfold piecesF
  have e1 : mins g n = mins g' n := by
    unfold mins
    refine List.filter_congr fun x hx => ?_
    obtain ⟨x0, x1⟩ := mem_upTo hx
    rw [Bool.eq_iff_iff, least_iff, least_iff]
    refine ⟨fun z y h0 h1 e => z y h0 h1 ((h y x h0 (by omega) x0 x1).mpr e), fun z y h0 h1 e => z y h0 h1 ((h y x h0 (by omega) x0 x1).mp e)⟩
  rw [e1]
  refine List.map_congr_left fun x hx => ?_
  obtain ⟨⟨x0, x1⟩, _⟩ := mins_mem.mp hx
  unfold piece
  refine List.filter_congr fun y hy => ?_
  obtain ⟨y0, y1⟩ := mem_upTo hy
  exact decide_eq_decide.mpr (h y x y0 y1 x0 x1)
/-- rising lists with the same members are one -/
theorem up_same : ∀ {l m : List Int}, l.Pairwise (· < ·) → m.Pairwise (· < ·) → (∀ x, x ∈ l ↔ x ∈ m) → l = m
  | [], [], _, _, _ => rfl
  | [], b :: s, _, _, h => by have := (h b).mpr List.mem_cons_self; cases this
  | a :: r, [], _, _, h => by have := (h a).mp List.mem_cons_self; cases this
  | a :: r, b :: s, hl, hm, h => by
    obtain ⟨l1, l2⟩ := List.pairwise_cons.mp hl
    obtain ⟨m1, m2⟩ := List.pairwise_cons.mp hm
    have e : a = b := by
      have h1 := (h a).mp List.mem_cons_self
      have h2 := (h b).mpr List.mem_cons_self
      rcases List.mem_cons.mp h1 with z | z
      · exact z
      · rcases List.mem_cons.mp h2 with y | y
        · exact y.symm
        · have := l1 b y
          have := m1 a z
          omega
    subst e
    congr 1
    refine up_same l2 m2 fun x => ⟨fun hx => ?_, fun hx => ?_⟩
    · rcases List.mem_cons.mp ((h x).mp (List.mem_cons_of_mem _ hx)) with z | z
      · have := l1 x hx
        omega
      · exact z
    · rcases List.mem_cons.mp ((h x).mpr (List.mem_cons_of_mem _ hx)) with z | z
      · have := m1 x hx
        omega
      · exact z
/-- labels that are the least points -/
structure Hd (n : Int) (hs : List Int) : Prop where
  len : (hs.length : Int) = n
  rng : ∀ x, 0 ≤ x → x < n → 0 ≤ hat hs x ∧ hat hs x ≤ x
  fix : ∀ x, 0 ≤ x → x < n → hat hs (hat hs x) = hat hs x
theorem Hd.step {n : Int} {hs : List Int} (h : Hd n hs) {t : Int × Int} (ht : 0 ≤ t.1 ∧ t.1 < t.2 ∧ t.2 < n) : Hd n (hstep hs t) := by
  have hl := h.len
  have e : ∀ x, 0 ≤ x → x < n → hat (hstep hs t) x = mrg (hat hs t.1) (hat hs t.2) (hat hs x) := fun x x0 x1 => hat_map x0 (by omega)
  obtain ⟨a0, a1⟩ := h.rng t.1 ht.1 (by omega)
  obtain ⟨b0, b1⟩ := h.rng t.2 (by omega) ht.2.2
  have fa := h.fix t.1 ht.1 (by omega)
  have fb := h.fix t.2 (by omega) ht.2.2
  refine ⟨by unfold hstep; rw [List.length_map]; exact hl, fun x x0 x1 => ?_, fun x x0 x1 => ?_⟩
  · rw [e x x0 x1]
    have := h.rng x x0 x1
    unfold mrg
    split <;> omega
  · have hx := h.rng x x0 x1
    have fx := h.fix x x0 x1
    rw [e x x0 x1]
    have hm : 0 ≤ mrg (hat hs t.1) (hat hs t.2) (hat hs x) ∧ mrg (hat hs t.1) (hat hs t.2) (hat hs x) < n := by
      unfold mrg
      split <;> omega
    rw [e _ hm.1 hm.2]
    unfold mrg
    by_cases c : hat hs x = hat hs t.1 ∨ hat hs x = hat hs t.2
    · rw [if_pos c]
      have : hat hs (min (hat hs t.1) (hat hs t.2)) = min (hat hs t.1) (hat hs t.2) := by
        rcases Int.le_total (hat hs t.1) (hat hs t.2) with z | z
        · rw [Int.min_eq_left z]; exact fa
        · rw [Int.min_eq_right z]; exact fb
      rw [this, if_pos (by omega)]
    · rw [if_neg c, fx, if_neg c]
theorem Hd.start {n : Int} (h : 0 ≤ n) : Hd n (upTo n) := ⟨by rw [upTo_length]; omega, fun x x0 x1 => by rw [hat_upTo x0 x1]; omega, fun x x0 x1 => by rw [hat_upTo x0 x1, hat_upTo x0 x1]⟩
theorem Hd.heads {n : Int} : ∀ {ts : List (Int × Int)} {hs : List Int}, Hd n hs → TOk n ts → Hd n (headsF hs ts)
  | [], _, h, _ => h
  | t :: ts, hs, h, ok => Hd.heads (hs := hstep hs t) (h.step (ok t List.mem_cons_self)) fun x hx => ok x (List.mem_cons_of_mem _ hx)
theorem Ker.heads {n : Int} : ∀ {ts : List (Int × Int)} {r : Int → Int} {hs : List Int}, Ker n r hs → TOk n ts → Ker n (foldR r ts) (headsF hs ts)
  | [], _, _, h, _ => h
  | t :: ts, r, hs, h, ok => Ker.heads (r := rstep r t) (hs := hstep hs t) (h.step (ok t List.mem_cons_self)) fun x hx => ok x (List.mem_cons_of_mem _ hx)
theorem Hd.mins {n : Int} {hs : List Int} (h : Hd n hs) {x : Int} (x0 : 0 ≤ x) (x1 : x < n) : least (hat hs) x = true ↔ hat hs x = x := by
  rw [least_iff]
  obtain ⟨r0, r1⟩ := h.rng x x0 x1
  refine ⟨fun z => ?_, fun e y y0 y1 q => ?_⟩
  · by_cases c : hat hs x = x
    · exact c
    · exact absurd (h.fix x x0 x1) (z _ r0 (by omega))
  · have := (h.rng y y0 (by omega)).2
    omega
/-- the law's pieces: the sorted labels, each with its points -/
theorem heads_pieces {n : Int} {ts : List (Int × Int)} (hn : 0 ≤ n) (ok : TOk n ts) {ms : List Int} (up : ms.Pairwise (· < ·)) (hm : ∀ k, k ∈ ms ↔ k ∈ headsF (upTo n) ts) :
    ms.map (fun h => (upTo n).filter fun y => decide (hat (headsF (upTo n) ts) y = h)) = piecesF (foldR (fun x => x) ts) n := by
  have H := Hd.heads (Hd.start hn) ok
  have Kk := Ker.heads (Ker.start hn) ok
  have hl := H.len
  rw [piecesF_ker Kk.ker]
  have e : ms = mins (hat (headsF (upTo n) ts)) n := by
    refine up_same up (mins_up _ _) fun k => ?_
    rw [hm k, mins_mem]
    refine ⟨fun hk => ?_, fun ⟨⟨k0, k1⟩, hk⟩ => ?_⟩
    · obtain ⟨i, hi⟩ := List.getElem?_of_mem hk
      have hil := (List.getElem?_eq_some_iff.mp hi).1
      have ek : hat (headsF (upTo n) ts) (i : Int) = k := by
        unfold hat
        rw [List.getD_eq_getElem?_getD, show ((i : Int)).toNat = i by omega, hi]
        rfl
      have hr := H.rng (i : Int) (by omega) (by omega)
      have hf := H.fix (i : Int) (by omega) (by omega)
      rw [ek] at hr hf
      exact ⟨⟨hr.1, by omega⟩, (H.mins hr.1 (by omega)).mpr hf⟩
    · rw [← (H.mins k0 k1).mp hk]
      exact hat_mem k0 (by omega)
  unfold piecesF
  rw [e]
  refine List.map_congr_left fun x hx => ?_
  obtain ⟨⟨x0, x1⟩, hx⟩ := mins_mem.mp hx
  unfold piece
  rw [(H.mins x0 x1).mp hx]
/-- tuples of ints -/
def Lots (H : Hp) (rs : List V) (pss : List (List Int)) : Prop := Paired (fun (r : V) (ls : List Int) => ∃ q, r = .ref q ∧ H q = some (.tup (ls.map V.int))) rs pss
theorem Lots.mono {H H' : Hp} {rs : List V} {pss : List (List Int)} (h : Lots H rs pss) (k : ∀ q xs, H q = some (.tup xs) → H' q = some (.tup xs)) : Lots H' rs pss := L2.Paired.mapP h fun _ _ ⟨q, e, z⟩ => ⟨q, e, k q _ z⟩
theorem Lots.ke {H H' : Hp} {rs : List V} {pss : List (List Int)} (h : Lots H rs pss) (k : Ke H H') : Lots H' rs pss := h.mono fun _ _ => k.tup
theorem Lots.new {H : Hp} {p : Addr} {o : HO} {rs : List V} {pss : List (List Int)} (h : Lots H rs pss) (k : H p = none) : Lots (upd H p o) rs pss := h.mono fun _ _ => tup_new k
theorem Lots.put {H : Hp} {p : Addr} {o : HO} {ys : List V} {rs : List V} {pss : List (List Int)} (h : Lots H rs pss) (k : H p = some (.lst ys)) : Lots (upd H p o) rs pss := h.mono fun q xs e => by rw [upd_ne (ne_of e k (fun z => nomatch z))]; exact e
theorem Lots.length {H : Hp} {rs : List V} {pss : List (List Int)} (h : Lots H rs pss) : rs.length = pss.length := Paired.length h
theorem Lots.append {H : Hp} : ∀ {rs qs : List V} {ps us : List (List Int)}, Lots H rs ps → Lots H qs us → Lots H (rs ++ qs) (ps ++ us)
  | _, _, _, _, .nil, b => b
  | _, _, _, _, .cons r t, b => .cons r (Lots.append t b)
theorem Lots.one {H : Hp} {q : Addr} {ls : List Int} (h : H q = some (.tup (ls.map V.int))) : Lots H [.ref q] [ls] := .cons ⟨q, rfl, h⟩ .nil
theorem Lots.get {H : Hp} : ∀ {rs : List V} {ps : List (List Int)} {i : Nat} {r : V}, Lots H rs ps → rs[i]? = some r → ∃ ls q, ps[i]? = some ls ∧ r = .ref q ∧ H q = some (.tup (ls.map V.int))
  | _, _, _, _, .nil, e => by simp at e
  | _, _, 0, _, .cons (b := t) ⟨q, e1, e2⟩ _, e => by simp at e; subst e; exact ⟨t, q, rfl, e1, e2⟩
  | _, _, i + 1, r, .cons _ t, e => by
    obtain ⟨u, q, h1, h2, h3⟩ := Lots.get (i := i) (r := r) t (by simpa using e)
    exact ⟨u, q, by simpa using h1, h2, h3⟩
theorem Lots.dp {K : PySem.W.Frag} {H : Hp} : ∀ {rs : List V} {ps : List (List Int)}, Lots H rs ps → DpAll K H rs (ps.map fun l => .tuple (l.map PyData.int))
  | _, _, .nil => .nil
  | _, _, .cons ⟨q, e, h⟩ t => by
    subst e
    exact .cons (.tup (sqT_of h) (dp_ints _)) (Lots.dp t)
theorem shaped_lots (ps : List (List Int)) : SeqAt.shaped (.tuple (ps.map fun l => .tuple (l.map PyData.int))) = true := (Sh.tup (k := 1) fun d hd => by
  obtain ⟨l, _, rfl⟩ := List.mem_map.mp hd
  exact Sh.tup fun d hd => by
    obtain ⟨x, _, rfl⟩ := List.mem_map.mp hd
    exact Sh.int).shaped
theorem eqv_lots (ps : List (List Int)) : PyData.eqv (.tuple (ps.map fun l => .tuple (l.map PyData.int))) (.tuple (ps.map fun l => .tuple (l.map PyData.int))) = true :=
  SeqAt.eqv_refl _ (SeqAt.canLay_of_shaped (shaped_lots ps))
theorem nums_upTo (r : Int → Int) (f : Int) : ∀ n : Nat, numsFrom f 0 ((upTo n).map fun x => V.int (r x)) = (upTo n).filter fun y => decide (r y = f)
  | 0 => rfl
  | n + 1 => by
    have e : ((n + 1 : Nat) : Int) = (n : Int) + 1 := by omega
    rw [e, upTo_snoc, List.map_append, List.map_cons, List.map_nil, nums_snoc, nums_upTo r f n, List.filter_append, List.length_map, upTo_length]
    congr 1
    by_cases c : r n = f
    · rw [if_pos (congrArg V.int c), List.filter_cons_of_pos (p := fun y => decide (r y = f)) (decide_eq_true c), List.filter_nil]
      congr 1
      omega
    · rw [if_neg (fun z => c (V.int.inj z)), List.filter_cons_of_neg (p := fun y => decide (r y = f)) (by rw [decide_eq_false c]; decide), List.filter_nil]
theorem pieces_keys (r : Int → Int) (n : Nat) {fs : List Int} (h : fs = nub ((upTo n).map r)) : fs.map (fun f => numsFrom f 0 ((upTo n).map fun x => V.int (r x))) = piecesF r n := by
  rw [h, nub_mins, List.map_map]
  unfold piecesF
  refine List.map_congr_left fun x _ => ?_
  exact nums_upTo r (r x) n
theorem pieces_len {g : Int → Int} {n : Int} : (piecesF g n).length ≤ n.toNat := by
  unfold piecesF mins
  rw [List.length_map]
  have := List.length_filter_le (least g) (upTo n)
  rw [upTo_length] at this
  exact this
end FF
namespace FF
open PySem PySem.Spec PyProof.Rows L2
variable [LT]
/-! ### max and set of tuples of ints -/
section
variable {X : Cx} {K : PySem.W.Frag}
end
end FF
namespace FF
open PySem PySem.Spec PyProof.Rows L2
variable [LT]
/-! ### ties between parts -/
def between (ps : List Int) (ts : List (Int × Int)) : Nat := (ts.filter fun t => !decide (hat ps t.1 = hat ps t.2)).length
/-! ### ties between and within are all -/
theorem inside_cons (ls : List Int) (t : Int × Int) (ts : List (Int × Int)) : inside ls (t :: ts) = (if (decide (t.1 ∈ ls) && decide (t.2 ∈ ls)) = true then 1 else 0) + inside ls ts := by
  unfold inside
  rw [List.filter_cons]
  split
  · rw [List.length_cons, Nat.add_comm]
  · rw [Nat.zero_add]
theorem sum_add {α : Type} (f g : α → Int) : ∀ l : List α, (l.map fun x => f x + g x).sum = (l.map f).sum + (l.map g).sum
  | [] => rfl
  | x :: r => by
    simp only [List.map_cons, List.sum_cons]
    rw [sum_add f g r]
    omega
theorem sum_one {m : Int} (g : Int → Int) : ∀ {l : List Int}, l.Nodup → m ∈ l → (∀ x ∈ l, x ≠ m → g x = 0) → (l.map g).sum = g m
  | x :: r, nd, hm, h0 => by
    obtain ⟨n1, n2⟩ := List.nodup_cons.mp nd
    rw [List.map_cons, List.sum_cons]
    by_cases e : x = m
    · subst e
      have : (r.map g).sum = 0 := by
        have hz : ∀ y ∈ r, g y = 0 := fun y hy => h0 y (List.mem_cons_of_mem _ hy) fun c => n1 (c ▸ hy)
        clear h0 nd n2 hm n1
        induction r with
        | nil => rfl
        | cons y r ih =>
          rw [List.map_cons, List.sum_cons, hz y List.mem_cons_self, ih fun z hz' => hz z (List.mem_cons_of_mem _ hz')]
          rfl
      omega
    · rcases List.mem_cons.mp hm with c | hm
      · exact absurd c.symm e
      · rw [h0 x List.mem_cons_self e, sum_one g n2 hm fun y hy => h0 y (List.mem_cons_of_mem _ hy)]
        omega
theorem sum_zero {α : Type} (g : α → Int) : ∀ {l : List α}, (∀ x ∈ l, g x = 0) → (l.map g).sum = 0
  | [], _ => rfl
  | x :: r, h => by
    rw [List.map_cons, List.sum_cons, h x List.mem_cons_self, sum_zero g fun y hy => h y (List.mem_cons_of_mem _ hy)]
    rfl
/-- ties join: both ends have one root -/
theorem rstep_keep {r : Int → Int} {t : Int × Int} {x y : Int} (h : r x = r y) : rstep r t x = rstep r t y := by
  unfold rstep
  rw [h]
theorem foldR_keep : ∀ {ts : List (Int × Int)} {r : Int → Int} {x y : Int}, r x = r y → foldR r ts x = foldR r ts y
  | [], _, _, _, h => h
  | t :: ts, r, _, _, h => foldR_keep (ts := ts) (r := rstep r t) (rstep_keep h)
theorem foldR_tie : ∀ {ts : List (Int × Int)} {r : Int → Int} {t : Int × Int}, t ∈ ts → foldR r ts t.1 = foldR r ts t.2
  | u :: ts, r, t, h => by
    rcases List.mem_cons.mp h with rfl | h
    · refine foldR_keep (ts := ts) (r := rstep r t) ?_
      unfold rstep
      rw [if_pos rfl]
      by_cases c : r t.1 = r t.2
      · rw [if_pos c]
      · rw [if_neg c]
    · exact foldR_tie (ts := ts) (r := rstep r u) h
end FF
namespace FF
open PySem PySem.Spec PyProof.Rows L2
variable [LT]
/-! ### tuple * int, from 0 on -/
theorem tuple_mulW1 (l : Addr) (items : Array Value) (n : Nat) (dd : Option Addr) (sl : Array (Option Value)) (u : Tok) :
    Meets (Builtin.«tuple.__mul__» ⟨[.ref l, .int 1 u], []⟩) (fun _ R s => s.heap.get? l = some { cls := .type "tuple", dict := dd, data := .seq items n, slots := sl } ∧ R (.ok (.ret (Value.ref l))) s) :=
  .of_wp fun prog w A R s h => by
    obtain ⟨hp, g, d, tk, os⟩ := s
    obtain ⟨hl, h⟩ := h
    have f1 := AutoSeq1.idx_int
    have c0 : (decide ((1 : Int) < -(2 ^ 63)) || decide ((1 : Int) ≥ 2 ^ 63)) = false := by decide
    have c1 : (items.isEmpty || (1 : Int) == 1) = true := by rw [Bool.or_eq_true]; exact .inr rfl
    wp_walk using AutoSeq1.wpAny_loadPart' hl
    repeat (first
      | (refine wpAny_ite_false (decide_eq_false (by rw [c0]; exact Bool.false_ne_true)) ?_; wp_walk using AutoSeq1.wpAny_loadPart' hl)
      | (refine wpAny_ite_true (decide_eq_true c1) ?_; wp_walk using AutoSeq1.wpAny_loadPart' hl))
    exact ⟨_, rfl, h⟩
theorem tuple_mulW0 (l : Addr) (items : Array Value) (n : Nat) (dd : Option Addr) (sl : Array (Option Value)) (u : Tok) (hi : items.isEmpty = false) :
    Meets (Builtin.«tuple.__mul__» ⟨[.ref l, .int 0 u], []⟩) (fun _ R s => s.heap.get? l = some { cls := .type "tuple", dict := dd, data := .seq items n, slots := sl } ∧
      R (.ok (.ret (Value.ref s.heap.objs.size))) { s with heap := s.heap.push { cls := Value.type "tuple", data := Data.seq #[] }, toks := s.toks }) :=
  .of_wp fun prog w A R s h => by
    obtain ⟨hp, g, d, tk, os⟩ := s
    obtain ⟨hl, h⟩ := h
    have f1 := AutoSeq1.idx_int
    have c0 : (decide ((0 : Int) < -(2 ^ 63)) || decide ((0 : Int) ≥ 2 ^ 63)) = false := by decide
    have c1 : (items.isEmpty || (0 : Int) == 1) = false := by rw [hi]; rfl
    have c2 : (decide ((0 : Int) ≤ 0) || items.isEmpty) = true := by rw [hi]; rfl
    wp_walk using AutoSeq1.wpAny_loadPart' hl
    repeat (first
      | (refine wpAny_ite_false (decide_eq_false (by rw [c0]; exact Bool.false_ne_true)) ?_; wp_walk using AutoSeq1.wpAny_loadPart' hl)
      | (refine wpAny_ite_false (decide_eq_false (by rw [c1]; exact Bool.false_ne_true)) ?_; wp_walk using AutoSeq1.wpAny_loadPart' hl)
      | (refine wpAny_ite_true (decide_eq_true c2) ?_; wp_walk using AutoSeq1.wpAny_loadPart' hl))
    exact ⟨_, rfl, h⟩
def rRepU (K : PySem.W.Frag) : R2 := fun x y H Q => ∃ l k xs, x = .ref l ∧ y = .int k ∧ H l = some (.tup xs) ∧ xs ≠ [] ∧ 0 ≤ k ∧ k ≤ 1000 ∧ xs.length ≤ 1000 ∧ ∀ p H', Ke H H' → H' p = some (.tup (List.replicate k.toNat xs).flatten) → Q (.ref p) H'
section
variable {X : Cx}
theorem repU {K : PySem.W.Frag} (h : X.K = K := by rfl) : OpR X (binaryOp .Mult) (rRepU K) := by
  intro pins s σ H x y v u Q I rx ry hq
  obtain ⟨l, k, xs, e1, e2, hT, hne, h1, h2, hz, q⟩ := hq
  by_cases c : 2 ≤ k
  · exact op_repT pins s σ H x y v u Q I rx ry ⟨l, k, xs, e1, e2, sqT_of hT, hne, c, h2, hz, fun p np => q p _ (Ke.new np) upd_same⟩
  · subst e1 e2
    cases rx
    obtain ⟨t, rfl⟩ := ry
    obtain ⟨its, r, ⟨⟨cls, dd, data, sl⟩, ho, hc, n, hd⟩, hs⟩ := I.tuple (sqT_of hT)
    simp only at hc hd
    subst hc hd
    have hle : its.length = xs.length := r.length.symm
    have hi : its.toArray.isEmpty = false := by
      cases its with
      | nil => exact absurd (List.eq_nil_of_length_eq_zero hle.symm) hne
      | cons a b => rfl
    by_cases c1 : k = 1
    · subst c1
      refine wpAny_binaryOp_repeat_ref (T := "tuple") (U := "int") (by decide) ⟨_, ho, rfl⟩ (fun s' => typeIs_int s' 1 t) noFill_tuple_mul F.fills_int_mul F.slot_int_rmul repeat_tuple F.slot_int_index.lookup
        (call_meets F.slot_int_rmul (typeIs_int s 1 t) F.entry_int_rmul (F.args_int_rmul_2 _ _) (int_rmul_tuple 1 t l its.toArray n dd sl)
          ⟨ho, rfl, ⟨_, ho, rfl⟩, call_meets F.slot_tuple_mul ⟨_, ho, rfl⟩ F.entry_tuple_mul (F.args_tuple_mul_2 _ _) (tuple_mulW1 l its.toArray n dd sl t) ⟨ho, ?_⟩⟩)
      refine ⟨.ref l, H, I, rfl, q l H .refl ?_⟩
      rw [hT]
      show _ = some (HO.tup (xs ++ []))
      rw [List.append_nil]
    · have c0 : k = 0 := by omega
      subst c0
      refine wpAny_binaryOp_repeat_ref (T := "tuple") (U := "int") (by decide) ⟨_, ho, rfl⟩ (fun s' => typeIs_int s' 0 t) noFill_tuple_mul F.fills_int_mul F.slot_int_rmul repeat_tuple F.slot_int_index.lookup
        (call_meets F.slot_int_rmul (typeIs_int s 0 t) F.entry_int_rmul (F.args_int_rmul_2 _ _) (int_rmul_tuple 0 t l its.toArray n dd sl)
          ⟨ho, rfl, ⟨_, ho, rfl⟩, call_meets F.slot_tuple_mul ⟨_, ho, rfl⟩ F.entry_tuple_mul (F.args_tuple_mul_2 _ _) (tuple_mulW0 l its.toArray n dd sl t hi) ⟨ho, ?_⟩⟩)
      refine ⟨.ref s.heap.objs.size, _, I.laid (t' := s.toks) (o := .tup []) (fun b ob q => Heap.get?_push_of_some _ q) (Nat.le_refl _) ?_, rfl, q _ _ (Ke.new (I.hok.fresh (Nat.le_refl _))) upd_same⟩
      exact ⟨Nat.zero_le _, [], .nil, IsTup.new _ _⟩
end
end FF
namespace FF
open PySem PySem.Spec PyProof.Rows L2
variable [LT]
/-! ### hung forests -/
structure Nd where
  top : Int
  dep : Int
  up : Option (Int × Int)
def Nd.vals (d : Nd) : List V := match d.up with
  | none => [.int d.top, .int d.dep, .non, .non]
  | some (y, m) => [.int d.top, .int d.dep, .int y, .int m]
theorem Nd.vals1 (d : Nd) : d.vals[1]? = some (.int d.dep) := by
  unfold Nd.vals
  split <;> rfl
abbrev Nds := List (Option Nd)
/-! ### steps from point to point -/
/-- a tie m leads from x to y -/
def Leads (ts : List (Int × Int)) (m x y : Int) : Prop := ts.getD m.toNat (0, 0) = (x, y) ∨ ts.getD m.toNat (0, 0) = (y, x)
theorem Leads.symm {ts : List (Int × Int)} {m x y : Int} (h : Leads ts m x y) : Leads ts m y x := h.elim .inr .inl
/-! ### hung in part -/
theorem Leads.rng {n : Int} {ts : List (Int × Int)} {m x y : Int} (h : Leads ts m x y) (ok : TOk n [ts.getD m.toNat (0, 0)]) : 0 ≤ y ∧ y < n := by
  have := ok _ List.mem_cons_self
  rcases h with h | h
  · rw [h] at this
    dsimp only at this
    omega
  · rw [h] at this
    dsimp only at this
    omega
end FF
namespace FF
open PySem PySem.Spec PyProof.Rows L2
variable [LT]
/-! ### ways along ties -/
inductive Way (ts : List (Int × Int)) : Int → List Int → Int → Prop where
  | nil (x : Int) : Way ts x [] x
  | cons {m x y z : Int} {l : List Int} : Leads ts m x y → Way ts y l z → Way ts x (m :: l) z
theorem Way.append {ts : List (Int × Int)} {x y z : Int} {l k : List Int} (h : Way ts x l y) (g : Way ts y k z) : Way ts x (l ++ k) z := by
  induction h with
  | nil x => exact g
  | cons hl _ ih => exact .cons hl (ih g)
section
variable {n : Int} {ts : List (Int × Int)} {ms : List Int} {ds : Nds}
end
section
variable {n : Int} {ts : List (Int × Int)} {ms : List Int} {ds : Nds} {a0 b0 a b : Int} {xs ys : List Int}
/-- the ring that comes of it -/
structure IsRing (ts : List (Int × Int)) (ms : List Int) (a b : Int) (ns : List Int) : Prop where
  way : Way ts a ns b
  nd : ns.Nodup
  mem : ∀ m ∈ ns, m ∈ ms
end
/-! ### joined by the ties: the roots tell -/
theorem foldR_fine {g : Int → Int} : ∀ {L : List (Int × Int)} {r : Int → Int}, (∀ x y, r x = r y → g x = g y) → (∀ t ∈ L, g t.1 = g t.2) → ∀ x y, foldR r L x = foldR r L y → g x = g y
  | [], _, h, _, x, y, e => h x y e
  | t :: L, r, h, k, x, y, e => by
    refine foldR_fine (L := L) (r := rstep r t) (fun x y e => ?_) (fun u hu => k u (List.mem_cons_of_mem _ hu)) x y e
    have kt := k t List.mem_cons_self
    unfold rstep at e
    by_cases c1 : r x = r t.2
    · rw [if_pos c1] at e
      by_cases c2 : r y = r t.2
      · exact h x y (c1.trans c2.symm)
      · rw [if_neg c2] at e
        exact (h x t.2 c1).trans (kt.symm.trans (h t.1 y e))
    · rw [if_neg c1] at e
      by_cases c2 : r y = r t.2
      · rw [if_pos c2] at e
        exact (h x t.1 e).trans (kt.trans (h t.2 y c2.symm))
      · rw [if_neg c2] at e
        exact h x y e
theorem Leads.foldR {ts : List (Int × Int)} {ms : List Int} {m x y : Int} (hm : m ∈ ms) (h : Leads ts m x y) : FF.foldR (fun x => x) (pick ts ms) x = FF.foldR (fun x => x) (pick ts ms) y := by
  have hp : ts.getD m.toNat (0, 0) ∈ pick ts ms := List.mem_map.mpr ⟨m, hm, rfl⟩
  have := foldR_tie (r := fun x => x) hp
  rcases h with h | h
  · rw [h] at this
    exact this
  · rw [h] at this
    exact this.symm
section
variable {n : Int} {ts : List (Int × Int)} {ms : List Int} {ds : Nds}
end
theorem nums_at {f : Int} : ∀ {i : Nat} {ws : List V} {m : Int}, m ∈ numsFrom f i ws → ∃ k : Nat, m = ((i + k : Nat) : Int) ∧ ws[k]? = some (.int f)
  | _, [], _, h => nomatch h
  | i, x :: ws, m, h => by
    rcases List.mem_append.mp h with h | h
    · by_cases e : x = V.int f
      · rw [if_pos e] at h
        exact ⟨0, by rw [List.mem_singleton.mp h]; rfl, by rw [e]; rfl⟩
      · rw [if_neg e] at h
        cases h
    · obtain ⟨k, e1, e2⟩ := nums_at h
      exact ⟨k + 1, by rw [e1]; congr 1; omega, by simpa using e2⟩
theorem Way.inv {ts : List (Int × Int)} {x z m : Int} {l : List Int} (h : Way ts x (m :: l) z) : ∃ y, Leads ts m x y ∧ Way ts y l z := by
  cases h with
  | cons a b => exact ⟨_, a, b⟩
theorem Way.stop {ts : List (Int × Int)} {x z : Int} (h : Way ts x [] z) : x = z := by
  cases h
  rfl
theorem nub_of_nd : ∀ {ns : List Int}, ns.Nodup → (nub ns).length = ns.length := fun {ns} h => nd_eq (nub_nd ns) h fun x => mem_nub ns x
end FF
namespace FF
open PySem PySem.Spec PyProof.Rows L2
variable [LT]
/-! ### sum of a tuple of ints -/
section
variable {X : Cx} {K : PySem.W.Frag}
end
end FF
namespace FF
open PySem PySem.Spec PyProof.Rows L2
variable [LT]
/-! ### first fit in fewer forests -/
theorem FF.take {k : Int} {ts : List (Int × Int)} {ws : List V} (h : FF k ts ws) (i : Nat) : FF k (ts.take i) (ws.take i) := by
  refine ⟨by rw [List.length_take, List.length_take, h.len], fun j t x ht hx => ?_⟩
  have hj : j < i := by
    have := (List.getElem?_eq_some_iff.mp ht).1
    rw [List.length_take] at this
    omega
  rw [List.getElem?_take_of_lt hj] at ht hx
  rw [List.take_take, List.take_take, Nat.min_eq_left (by omega)]
  exact h.each j t x ht hx
theorem FF.joined {k : Int} {ts : List (Int × Int)} {ws : List V} (h : FF k ts ws) (i : Nat) (t : Int × Int) (f : Int) : (foldR (fun x => x) (layerOf (ts.take i) (ws.take i) f) t.1 = foldR (fun x => x) (layerOf (ts.take i) (ws.take i) f) t.2) ↔ freeB (ts.take i) (ws.take i) t f = false := by
  rw [freeB_eq ((h.take i).forest f)]
  constructor
  · intro e
    rw [decide_eq_true e]
    rfl
  · intro e
    by_cases c : foldR (fun x => x) (layerOf (ts.take i) (ws.take i) f) t.1 = foldR (fun x => x) (layerOf (ts.take i) (ws.take i) f) t.2
    · exact c
    · rw [decide_eq_false c] at e
      cases e
theorem layerOf_congr {f : Int} : ∀ {ts : List (Int × Int)} {ws ws' : List V}, ws.length = ws'.length → (∀ (j : Nat) x y, ws[j]? = some x → ws'[j]? = some y → (x = V.int f ↔ y = V.int f)) → layerOf ts ws f = layerOf ts ws' f
  | [], _, _, _, _ => rfl
  | t :: ts, [], [], _, _ => rfl
  | t :: ts, x :: ws, y :: ws', hl, h => by
    have ih := layerOf_congr (f := f) (ts := ts) (ws := ws) (ws' := ws') (by simpa using hl) fun j a b ha hb => h (j + 1) a b (by simpa using ha) (by simpa using hb)
    have h0 := h 0 x y rfl rfl
    unfold layerOf at ih ⊢
    rw [List.zip_cons_cons, List.zip_cons_cons, List.filter_cons, List.filter_cons]
    by_cases c : x = V.int f
    · rw [if_pos (decide_eq_true c), if_pos (decide_eq_true (h0.mp c)), List.map_cons, List.map_cons, ih]
    · rw [if_neg (by rw [decide_eq_false c]; decide), if_neg (by rw [decide_eq_false fun z => c (h0.mpr z)]; decide), ih]
theorem FF.more {k K : Int} {ts : List (Int × Int)} {ws ws' : List V} (h : FF k ts ws) (h' : FF K ts ws') (hk : k ≤ K) : ∀ (i : Nat) x y, ws[i]? = some x → ws'[i]? = some y → ∀ f, f < k → (x = V.int f ↔ y = V.int f) := by
  intro i
  induction i using Nat.strongRecOn with
  | _ i ih =>
    intro x y hx hy f hf
    have hil := (List.getElem?_eq_some_iff.mp hx).1
    have hit : i < ts.length := by rw [← h.len]; exact hil
    have ht := List.getElem?_eq_getElem hit
    have c := h.each i _ x ht hx
    have c' := h'.each i _ y ht hy
    have fr : ∀ g, g < k → freeB (ts.take i) (ws.take i) ts[i] g = freeB (ts.take i) (ws'.take i) ts[i] g := fun g hg => by
      unfold freeB
      rw [layerOf_congr (ws := ws.take i) (ws' := ws'.take i) (by rw [List.length_take, List.length_take, h.len, h'.len]) fun j a b ha hb => ?_]
      have hj : j < i := by
        have := (List.getElem?_eq_some_iff.mp ha).1
        rw [List.length_take] at this
        omega
      rw [List.getElem?_take_of_lt hj] at ha hb
      exact ih j hj a b ha hb g hg
    constructor
    · intro e
      subst e
      cases c with
      | at_ f0 f1 ff fb =>
        cases c' with
        | out z =>
          have := z f f0 (by omega)
          rw [← fr f hf, ff] at this
          cases this
        | @at_ g g0 g1 gf gb =>
          by_cases c1 : g < f
          · have := fb g g0 c1
            rw [fr g (by omega), gf] at this
            cases this
          · by_cases c2 : f < g
            · have := gb f f0 c2
              rw [← fr f hf, ff] at this
              cases this
            · rw [show g = f by omega]
    · intro e
      subst e
      cases c' with
      | at_ g0 g1 gf gb =>
        cases c with
        | out z =>
          have := z f g0 hf
          rw [fr f hf, gf] at this
          cases this
        | @at_ g f0 f1 ff fb =>
          by_cases c1 : f < g
          · have := fb f g0 c1
            rw [fr f hf, gf] at this
            cases this
          · by_cases c2 : g < f
            · have := gb g f0 c2
              rw [← fr g f1, ff] at this
              cases this
            · rw [show g = f by omega]
end FF
namespace FF
open PySem PySem.Spec PyProof.Rows L2
variable [LT]
/-! ### two points with many ties -/
def dueV (k : Int) (i : Nat) : V := if (i : Int) < k then .int i else .non
def due (k : Int) (m : Nat) : List V := (List.range m).map (dueV k)
end FF
namespace FF
open PySem PySem.Spec PyProof.Rows L2
variable [LT]
/-! ### forests in any order; ties on the way -/
theorem ringlessF_ker : ∀ (L : List (Int × Int)) {r r' : Int → Int}, (∀ x y, r x = r y ↔ r' x = r' y) → ringlessF r L = ringlessF r' L
  | [], _, _, _ => rfl
  | t :: L, r, r', h => by
    show (if r t.1 = r t.2 then false else ringlessF (rstep r t) L) = (if r' t.1 = r' t.2 then false else ringlessF (rstep r' t) L)
    by_cases c : r t.1 = r t.2
    · rw [if_pos c, if_pos ((h _ _).mp c)]
    · rw [if_neg c, if_neg (fun z => c ((h _ _).mpr z))]
      refine ringlessF_ker L fun x y => ?_
      have h1 := h x y
      have h2 := h x t.2
      have h3 := h y t.2
      have h4 := h x t.1
      have h5 := h y t.1
      have h6 := h t.1 x
      have h7 := h t.1 y
      unfold rstep
      by_cases a1 : r x = r t.2
      · rw [if_pos a1, if_pos (h2.mp a1)]
        by_cases a2 : r y = r t.2
        · rw [if_pos a2, if_pos (h3.mp a2)]
          exact ⟨fun _ => rfl, fun _ => rfl⟩
        · rw [if_neg a2, if_neg (fun z => a2 (h3.mpr z))]
          exact h7
      · rw [if_neg a1, if_neg (fun z => a1 (h2.mpr z))]
        by_cases a2 : r y = r t.2
        · rw [if_pos a2, if_pos (h3.mp a2)]
          exact h4
        · rw [if_neg a2, if_neg (fun z => a2 (h3.mpr z))]
          exact h1
theorem foldR_sub {r : Int → Int} {L L' : List (Int × Int)} (h : ∀ t ∈ L, t ∈ L') (x y : Int) (e : foldR r L x = foldR r L y) : foldR r L' x = foldR r L' y :=
  foldR_fine (fun _ _ z => foldR_keep z) (fun t ht => foldR_tie (r := r) (h t ht)) x y e
theorem ringlessF_swap (r : Int → Int) (t u : Int × Int) (L : List (Int × Int)) : ringlessF r (t :: u :: L) = ringlessF r (u :: t :: L) := by
  show (if r t.1 = r t.2 then false else if rstep r t u.1 = rstep r t u.2 then false else ringlessF (rstep (rstep r t) u) L) = (if r u.1 = r u.2 then false else if rstep r u t.1 = rstep r u t.2 then false else ringlessF (rstep (rstep r u) t) L)
  by_cases c1 : r t.1 = r t.2
  · rw [if_pos c1]
    by_cases c2 : r u.1 = r u.2
    · rw [if_pos c2]
    · rw [if_neg c2, if_pos]
      unfold rstep
      rw [c1]
  · rw [if_neg c1]
    by_cases c2 : r u.1 = r u.2
    · rw [if_pos c2, if_pos]
      unfold rstep
      rw [c2]
    · rw [if_neg c2]
      by_cases c3 : rstep r t u.1 = rstep r t u.2
      · rw [if_pos c3, if_pos]
        unfold rstep at c3 ⊢
        split at c3 <;> split at c3 <;> split <;> split <;> omega
      · rw [if_neg c3, if_neg]
        · refine ringlessF_ker L fun x y => ?_
          have k1 := foldR_sub (r := r) (L := [t, u]) (L' := [u, t]) (fun w hw => by simp at hw ⊢; exact hw.symm) x y
          have k2 := foldR_sub (r := r) (L := [u, t]) (L' := [t, u]) (fun w hw => by simp at hw ⊢; exact hw.symm) x y
          exact ⟨k1, k2⟩
        · intro z
          refine c3 ?_
          unfold rstep at z ⊢
          split at z <;> split at z <;> split <;> split <;> omega
theorem ringlessF_perm {L L' : List (Int × Int)} (h : L.Perm L') : ∀ r : Int → Int, ringlessF r L = ringlessF r L' := by
  induction h with
  | nil => exact fun _ => rfl
  | cons t _ ih =>
    intro r
    show (if r t.1 = r t.2 then false else ringlessF (rstep r t) _) = (if r t.1 = r t.2 then false else ringlessF (rstep r t) _)
    rw [ih]
  | swap t u L => exact fun r => ringlessF_swap r u t L
  | trans _ _ a b => exact fun r => (a r).trans (b r)
theorem forest_apart {r : Int → Int} {L L' : List (Int × Int)} {t : Int × Int} (hp : L.Perm (L' ++ [t])) (h : ringlessF r L = true) : foldR r L' t.1 ≠ foldR r L' t.2 := by
  rw [ringlessF_perm hp r] at h
  cases e : ringlessF r L' with
  | false =>
    rw [ringlessF_bad L' r [t] e] at h
    cases h
  | true =>
    rw [ringlessF_more e, Bool.not_eq_true'] at h
    exact of_decide_eq_false h
theorem but_perm {x : Int} {ms : List Int} (hn : ms.Nodup) (hx : x ∈ ms) : ms.Perm (but x ms ++ [x]) := by
  induction ms with
  | nil => cases hx
  | cons m ms ih =>
    obtain ⟨h1, h2⟩ := List.nodup_cons.mp hn
    by_cases c : m = x
    · subst c
      have e : but m (m :: ms) = ms := by
        unfold but
        rw [List.filter_cons_of_neg (by simp), List.filter_eq_self.mpr]
        intro y hy
        have c : ¬ y = m := fun z => h1 (by rw [← z]; exact hy)
        rw [decide_eq_false c]
        rfl
      rw [e]
      exact (List.perm_append_singleton m ms).symm
    · have hx' : x ∈ ms := (List.mem_cons.mp hx).resolve_left fun z => c z.symm
      have e : but x (m :: ms) = m :: but x ms := by
        unfold but
        rw [List.filter_cons_of_pos]
        rw [decide_eq_false c]
        rfl
      rw [e]
      exact (ih h2 hx').cons m
theorem mem_but {g x : Int} {ms : List Int} : x ∈ but g ms ↔ x ∈ ms ∧ x ≠ g := by
  unfold but
  rw [List.mem_filter, Bool.not_eq_true', decide_eq_false_iff_not]
theorem Way.joined {ts : List (Int × Int)} {ms : List Int} {x y : Int} {l : List Int} (h : Way ts x l y) (hm : ∀ m ∈ l, m ∈ ms) : foldR (fun x => x) (pick ts ms) x = foldR (fun x => x) (pick ts ms) y := by
  induction h with
  | nil x => rfl
  | cons hl _ ih => exact (hl.foldR (hm _ List.mem_cons_self)).trans (ih fun m hm' => hm m (List.mem_cons_of_mem _ hm'))
theorem Way.cut {ts : List (Int × Int)} : ∀ {l : List Int} {x z m : Int}, Way ts x l z → m ∈ l → ∃ (l1 l2 : List Int) (u v : Int), l = l1 ++ m :: l2 ∧ Way ts x l1 u ∧ Leads ts m u v ∧ Way ts v l2 z
  | k :: l, x, z, m, h, hm => by
    obtain ⟨y, h1, h2⟩ := h.inv
    by_cases c : m = k
    · subst c
      exact ⟨[], l, x, y, rfl, .nil x, h1, h2⟩
    · obtain ⟨l1, l2, u, v, e, w1, w2, w3⟩ := h2.cut ((List.mem_cons.mp hm).resolve_left c)
      exact ⟨k :: l1, l2, u, v, by rw [e]; rfl, .cons h1 w1, w2, w3⟩
/-- a tie of a forest is on the way from a to b just if without it they are apart -/
theorem IsRing.mem_iff {ts : List (Int × Int)} {ms ns : List Int} {a b : Int} (h : IsRing ts ms a b ns) (hf : ringlessF (fun x => x) (pick ts ms) = true) (hn : ms.Nodup) (x : Int) : x ∈ ns ↔ x ∈ ms ∧ foldR (fun x => x) (pick ts (but x ms)) a ≠ foldR (fun x => x) (pick ts (but x ms)) b := by
  constructor
  · intro hx
    have hxm := h.mem x hx
    refine ⟨hxm, fun e => ?_⟩
    obtain ⟨l1, l2, u, v, el, w1, w2, w3⟩ := h.way.cut hx
    have hnd := h.nd
    rw [el] at hnd
    have hnd' := List.nodup_append.mp hnd
    have hx1 : ∀ m ∈ l1, m ∈ but x ms := fun m hm => mem_but.mpr ⟨h.mem m (by rw [el]; exact List.mem_append_left _ hm), hnd'.2.2 m hm x List.mem_cons_self⟩
    have hx2 : ∀ m ∈ l2, m ∈ but x ms := fun m hm => mem_but.mpr ⟨h.mem m (by rw [el]; exact List.mem_append_right _ (List.mem_cons_of_mem _ hm)), fun z => (List.nodup_cons.mp hnd'.2.1).1 (z ▸ hm)⟩
    have e1 := w1.joined hx1
    have e2 := w3.joined hx2
    have e3 : foldR (fun x => x) (pick ts (but x ms)) u = foldR (fun x => x) (pick ts (but x ms)) v := e1.symm.trans (e.trans e2.symm)
    have hp : (pick ts ms).Perm (pick ts (but x ms) ++ [ts.getD x.toNat (0, 0)]) := by
      rw [show [ts.getD x.toNat (0, 0)] = pick ts [x] from rfl, ← pick_append]
      exact (but_perm hn hxm).map _
    have ha := forest_apart hp hf
    rcases w2 with w2 | w2
    · rw [w2] at ha
      exact ha e3
    · rw [w2] at ha
      exact ha e3.symm
  · intro ⟨_, hne⟩
    by_cases c : x ∈ ns
    · exact c
    · exact absurd (h.way.joined fun m hm => mem_but.mpr ⟨h.mem m hm, fun z => c (by rw [← z]; exact hm)⟩) hne
end FF
namespace FF
open PySem PySem.Spec PyProof.Rows L2
variable [LT]
/-! ### a search along ties -/
theorem mem_nums {f : Int} : ∀ {i : Nat} {ws : List V} {k : Nat}, ws[k]? = some (.int f) → ((i + k : Nat) : Int) ∈ numsFrom f i ws := by
  intro i ws k h
  obtain ⟨hk, e⟩ := List.getElem?_eq_some_iff.mp h
  have e1 : ws = ws.take k ++ [V.int f] ++ ws.drop (k + 1) := take_rest h
  have app : ∀ (us : List V) (vs : List V) (i : Nat), ∀ x ∈ numsFrom f i us, x ∈ numsFrom f i (us ++ vs) := fun us vs => by
    induction vs generalizing us with
    | nil => intro i x hx; rw [List.append_nil]; exact hx
    | cons v vs ih =>
      intro i x hx
      rw [show us ++ v :: vs = (us ++ [v]) ++ vs by simp]
      refine ih _ i x ?_
      rw [nums_snoc]
      exact List.mem_append_left _ hx
  rw [e1]
  refine app _ _ i _ ?_
  rw [nums_snoc, if_pos rfl, List.length_take, Nat.min_eq_left (by omega)]
  exact List.mem_append_right _ List.mem_cons_self
end FF
namespace FF
open PySem PySem.Spec PyProof.Rows L2
variable [LT]
/-! ### pushes -/
theorem nums_nd (f : Int) : ∀ (i : Nat) (ws : List V), (numsFrom f i ws).Nodup
  | _, [] => List.nodup_nil
  | i, x :: r => by
    show ((if x = V.int f then [(i : Int)] else []) ++ numsFrom f (i + 1) r).Nodup
    rw [List.nodup_append]
    refine ⟨by split <;> simp, nums_nd f (i + 1) r, fun a ha b hb z => ?_⟩
    have := nums_bd f (i + 1) r b hb
    split at ha
    · have := List.mem_singleton.mp ha
      omega
    · cases ha
open Classical in
noncomputable def joinB (ts : List (Int × Int)) (ws : List V) (e : Int × Int) : Bool := decide (foldR (fun x => x) (layerOf ts ws e.2) (ts.getD e.1.toNat (0, 0)).1 = foldR (fun x => x) (layerOf ts ws e.2) (ts.getD e.1.toNat (0, 0)).2)
/-- the tie x is on the ring of the entry e -/
def OnRing (ts : List (Int × Int)) (ws : List V) (e : Int × Int) (x : Int) : Prop := x ∈ numsFrom e.2 0 ws ∧ foldR (fun x => x) (pick ts (but x (numsFrom e.2 0 ws))) (ts.getD e.1.toNat (0, 0)).1 ≠ foldR (fun x => x) (pick ts (but x (numsFrom e.2 0 ws))) (ts.getD e.1.toNat (0, 0)).2
open Classical in
noncomputable def pushB (ts : List (Int × Int)) (ws : List V) : List (Int × Int) → Bool
  | [] => true
  | [e] => !joinB ts ws e
  | e :: e' :: r => (joinB ts ws e && decide (OnRing ts ws e e'.1)) && pushB ts ws (e' :: r)
def layB (ws : List V) (e : Int × Int) : Bool := decide (ws[e.1.toNat]? = some (.int e.2))
end FF
namespace FF
open PySem PySem.Spec PyProof.Rows L2
variable [LT]
/-! ### zip of a list and a tuple, either way -/
end FF
namespace FF
open PySem PySem.Spec PyProof.Rows L2
variable [LT]
/-! ### t.count of a tuple of ints; l[i] op= e -/
section
variable {X : Cx} {K : PySem.W.Frag}
end
/-! ### outs of ways -/
theorem ext_hat {as bs : List Int} (hl : as.length = bs.length) (h : ∀ x : Int, 0 ≤ x → x < as.length → hat as x = hat bs x) : as = bs := by
  refine List.ext_getElem hl fun i h1 h2 => ?_
  have := h (i : Int) (by omega) (by omega)
  unfold hat at this
  rw [Int.toNat_natCast, List.getD_eq_getElem?_getD, List.getD_eq_getElem?_getD, List.getElem?_eq_getElem h1, List.getElem?_eq_getElem h2] at this
  exact this
end FF
namespace FF
open PySem PySem.Spec PyProof.Rows L2
variable [LT]
/-! ### tuples that are known to the object: methods can be asked of them -/
def TF (H : Hp) (a : Addr) (xs : List V) : Prop := ∃ o : Obj, H a = some (.frz o (.tup xs)) ∧ o.dict = none
theorem TF.sq {K : PySem.W.Frag} {H : Hp} {a : Addr} {xs : List V} (h : TF H a xs) : SqT K H a xs := by
  obtain ⟨o, e, _⟩ := h
  exact .inl (.inr ⟨o, e⟩)
theorem TF.ke {H H' : Hp} {a : Addr} {xs : List V} (h : TF H a xs) (k : Ke H H') : TF H' a xs := by
  obtain ⟨o, e, d⟩ := h
  exact ⟨o, k.at_ a _ e (fun _ z => nomatch z) fun z => z, d⟩
theorem TF.new {H : Hp} {p a : Addr} {o : HO} {xs : List V} (h : TF H a xs) (k : H p = none) : TF (upd H p o) a xs := h.ke (Ke.new k)
theorem TF.dk {H H' : Hp} {p a : Addr} {xs : List V} (h : TF H a xs) (k : Dk p H H') (d : Deck H p) : TF H' a xs := by
  obtain ⟨o, e, d'⟩ := h
  obtain ⟨ds, e2, _⟩ := d
  exact ⟨o, k.k.at_ a _ e (fun _ z => nomatch z) (ne_of e e2 (fun z => nomatch z)), d'⟩
theorem TF.put {H : Hp} {p a : Addr} {o : HO} {xs ys : List V} (h : TF H a xs) (k : H p = some (.lst ys)) : TF (upd H p o) a xs := by
  obtain ⟨o, e, d'⟩ := h
  exact ⟨o, by rw [upd_ne (ne_of e k (fun z => nomatch z))]; exact e, d'⟩
section
variable {X : Cx} {K : PySem.W.Frag}
variable {o e : Expr} {es : List Expr} {to : TE} {t : TA} {name : Str} {apos cpos : Pos} {id : String} {r : V → List V → Hp → VK → Prop}
end
/-! ### a thing: a tuple or not -/
inductive ThK (K : PySem.W.Frag) (H : Hp) : V → Option (List V) → Prop where
  | no {v : V} {nm : String} (h : TyN H v nm) (hn : nm ≠ "tuple") : ThK K H v none
  | yes {a : Addr} {xs : List V} (h : SqT K H a xs) (ht : TyX K H (.ref a) (.type "tuple")) (hx : ∀ x ∈ xs, ∃ n, TyN H x n) : ThK K H (.ref a) (some xs)
theorem Tpl.k {K : PySem.W.Frag} {H : Hp} {v : V} {o : Option (List V)} (h : Tpl H v o) : ThK K H v o := by
  cases h with
  | no h hn => exact .no h hn
  | yes h hx => exact .yes (sqT_of h) (TyN.tup h).x hx
theorem TF.k {K : PySem.W.Frag} {H : Hp} {a : Addr} {xs : List V} (h : TF H a xs) (hx : ∀ x ∈ xs, ∃ n, TyN H x n) : ThK K H (.ref a) (some xs) := by
  have h' := h.sq (K := K)
  obtain ⟨o, e, _⟩ := h
  exact .yes h' (.fTuple e) hx
theorem TF.ints {K : PySem.W.Frag} {H : Hp} {a : Addr} {ws : List Int} (h : TF H a (ws.map V.int)) : ThK K H (.ref a) (some (ws.map V.int)) := h.k (ty_ints ws)
/-! ### ways as things -/
def crowdO (n : Int) (ts : List (Int × Int)) (d : Int) (o : Option (List V)) : Bool := lotO n o && match o with
  | some xs => decide ((inside (intsOf xs) ts : Int) > d * (xs.length : Int))
  | none => false
theorem Lot.crowd {n : Int} {ls : List Int} (h : Lot n ls) (ts : List (Int × Int)) (d : Int) : crowdO n ts d (some (ls.map V.int)) = decide ((inside ls ts : Int) > d * (ls.length : Int)) := by
  show (lotO n (some (ls.map V.int)) && decide ((inside (intsOf (ls.map V.int)) ts : Int) > d * ((ls.map V.int).length : Int))) = _
  rw [h.o, Bool.true_and, intsOf_map, List.length_map]
end FF
namespace FF
open PySem PySem.Spec PyProof.Rows L2
variable [LT]
/-! ### a def whose last parameter has a default -/
end FF
namespace FF
open PySem PySem.Spec PyProof.Rows L2
variable [LT]
/-! ### data of tuples, to a depth -/
theorem Sh.up {k l : Nat} {d : PyData} (h : Sh k d) (hk : k ≤ l) : Sh l d := ⟨h.1, Nat.le_trans h.2 hk⟩
/-! ### ties in another order -/
/-! ### partings as things -/
/-! ### the greatest of some -/
end FF
namespace FF
open PySem PySem.Spec PyProof.Rows L2
variable [LT]
/-! ### how many are laid -/
end FF
namespace FF
open PySem PySem.Spec PyProof.Rows L2
variable [LT]
/-! ### rising tuples as things -/
/-! ### how many ties a forest has within a lot -/
theorem nub_glue {a b : Int} {hs : List Int} (ha : a ∈ hs) (hb : b ∈ hs) (h : a ≠ b) : (nub (hs.map fun x => if x = b then a else x)).length + 1 = (nub hs).length := by
  have e : (b :: nub (hs.map fun x => if x = b then a else x)).length = (nub hs).length := by
    refine nd_eq (List.nodup_cons.mpr ⟨fun z => ?_, nub_nd _⟩) (nub_nd _) fun x => ?_
    · rw [mem_nub] at z
      obtain ⟨y, hy, e⟩ := List.mem_map.mp z
      split at e
      · exact h e
      · rename_i hn
        exact hn e
    · rw [mem_nub, List.mem_cons, mem_nub]
      constructor
      · rintro (rfl | hx)
        · exact hb
        · obtain ⟨y, hy, e⟩ := List.mem_map.mp hx
          split at e
          · exact e ▸ ha
          · exact e ▸ hy
      · intro hx
        by_cases e : x = b
        · exact .inl e
        · exact .inr (List.mem_map.mpr ⟨x, hx, by rw [if_neg e]⟩)
  rw [← e, List.length_cons]
theorem lot_count {ls : List Int} : ∀ {ts : List (Int × Int)} {r : Int → Int}, ringlessF r ts = true → (∀ t ∈ ts, t.1 ∈ ls ∧ t.2 ∈ ls) → ts.length + (nub (ls.map (foldR r ts))).length = (nub (ls.map r)).length
  | [], r, _, _ => Nat.zero_add _
  | t :: ts, r, h, hm => by
    obtain ⟨h1, h2⟩ := hm t List.mem_cons_self
    have h : (if r t.1 = r t.2 then false else ringlessF (rstep r t) ts) = true := h
    have e : r t.1 ≠ r t.2 := fun z => by rw [if_pos z] at h; cases h
    rw [if_neg e] at h
    have hr := h
    have ih := lot_count (ls := ls) hr fun t' h' => hm t' (List.mem_cons_of_mem _ h')
    have g := nub_glue (hs := ls.map r) (List.mem_map.mpr ⟨_, h1, rfl⟩) (List.mem_map.mpr ⟨_, h2, rfl⟩) e
    have em : (ls.map r).map (fun x => if x = r t.2 then r t.1 else x) = ls.map (rstep r t) := by
      rw [List.map_map]
      rfl
    rw [em] at g
    have ih : ts.length + (nub (ls.map (foldR (rstep r t) ts))).length = (nub (ls.map (rstep r t))).length := ih
    show ts.length + 1 + (nub (ls.map (foldR (rstep r t) ts))).length = _
    omega
theorem lot_count_le {ls : List Int} {ts : List (Int × Int)} (h : ringlessF (fun x => x) ts = true) (hm : ∀ t ∈ ts, t.1 ∈ ls ∧ t.2 ∈ ls) (hn : ls.Nodup) (he : ls ≠ []) : ts.length + 1 ≤ ls.length := by
  have := lot_count h hm
  rw [List.map_id', nub_of_nd hn] at this
  have h1 : 0 < (nub (ls.map (foldR (fun x => x) ts))).length := by
    cases ls with
    | nil => exact absurd rfl he
    | cons x r =>
      have : foldR (fun x => x) ts x ∈ nub ((x :: r).map (foldR (fun x => x) ts)) := (mem_nub _ _).mpr List.mem_cons_self
      exact List.length_pos_of_mem this
  omega
theorem ringlessF_filter (p : Int × Int → Bool) {L : List (Int × Int)} (h : ringlessF (fun x => x) L = true) : ringlessF (fun x => x) (L.filter p) = true := by
  have hp : L.Perm (L.filter p ++ L.filter fun t => !p t) := (List.filter_append_perm p L).symm
  rw [ringlessF_perm hp] at h
  cases e : ringlessF (fun x => x) (L.filter p) with
  | true => rfl
  | false => rw [ringlessF_bad _ _ _ e] at h; cases h
/-- a forest has at most so many ties within a lot -/
theorem inside_forest {ls : List Int} {L : List (Int × Int)} (h : ringlessF (fun x => x) L = true) (hn : ls.Nodup) (he : ls ≠ []) : inside ls L + 1 ≤ ls.length := by
  refine lot_count_le (ringlessF_filter _ h) (fun t ht => ?_) hn he
  have := (List.mem_filter.mp ht).2
  rw [Bool.and_eq_true, decide_eq_true_eq, decide_eq_true_eq] at this
  exact this
end FF
namespace FF
open PySem PySem.Spec PyProof.Rows L2
variable [LT]
/-! ### laid ties, and how many of them lie within a lot -/
def laidM (ws : List V) (ms : List Int) : List Int := ms.filter fun m => !decide (ws.getD m.toNat .non = V.non)
def laidT (ts : List (Int × Int)) (ws : List V) : List (Int × Int) := ((ts.zip ws).filter fun p => !decide (p.2 = V.non)).map Prod.fst
theorem laidT_snoc {ts : List (Int × Int)} {ws : List V} (h : ts.length = ws.length) (t : Int × Int) (x : V) : laidT (ts ++ [t]) (ws ++ [x]) = laidT ts ws ++ if (!decide (x = V.non)) = true then [t] else [] := by
  unfold laidT
  rw [List.zip_append h, List.filter_append, List.map_append]
  congr 1
  show (List.filter (fun p : (Int × Int) × V => !decide (p.2 = V.non)) [(t, x)]).map Prod.fst = _
  rw [List.filter_cons]
  dsimp only
  split <;> rfl
theorem pick_laid {ts : List (Int × Int)} {ws : List V} (h : ws.length = ts.length) : ∀ i : Nat, i ≤ ts.length → pick ts (laidM ws (upTo i)) = laidT (ts.take i) (ws.take i)
  | 0, _ => rfl
  | i + 1, hi => by
    have ih := pick_laid h i (by omega)
    have e1 : ts[i]? = some (ts.getD i (0, 0)) := by rw [List.getD_eq_getElem?_getD, List.getElem?_eq_getElem (show i < ts.length by omega)]; rfl
    have e2 : ws[i]? = some (ws.getD i .non) := by rw [List.getD_eq_getElem?_getD, List.getElem?_eq_getElem (show i < ws.length by omega)]; rfl
    rw [take_next e1, take_next e2, laidT_snoc (by rw [List.length_take, List.length_take]; omega), ← ih]
    rw [show ((i + 1 : Nat) : Int) = (i : Int) + 1 by omega, upTo_snoc]
    unfold laidM
    rw [List.filter_append, pick_append]
    congr 1
    rw [List.filter_cons, Int.toNat_natCast]
    split
    · rw [List.filter_nil]
      rfl
    · rfl
theorem layerOf_cons (t : Int × Int) (ts : List (Int × Int)) (x : V) (ws : List V) (f : Int) : layerOf (t :: ts) (x :: ws) f = (if x = V.int f then [t] else []) ++ layerOf ts ws f := by
  unfold layerOf
  rw [List.zip_cons_cons, List.filter_cons]
  dsimp only
  by_cases e : x = V.int f
  · rw [if_pos e, if_pos (decide_eq_true e)]; rfl
  · rw [if_neg e, if_neg (by rw [decide_eq_false e]; decide)]; rfl
theorem laidT_cons (t : Int × Int) (ts : List (Int × Int)) (x : V) (ws : List V) : laidT (t :: ts) (x :: ws) = (if x = V.non then [] else [t]) ++ laidT ts ws := by
  unfold laidT
  rw [List.zip_cons_cons, List.filter_cons]
  dsimp only
  by_cases e : x = V.non
  · rw [if_pos e, if_neg (by rw [decide_eq_true e]; decide)]; rfl
  · rw [if_neg e, if_pos (by rw [decide_eq_false e]; rfl)]; rfl
theorem inside_app (ls : List Int) (ts us : List (Int × Int)) : inside ls (ts ++ us) = inside ls ts + inside ls us := by
  unfold inside
  rw [List.filter_append, List.length_append]
/-- the laid ties within a lot, forest by forest -/
theorem inside_laid {k : Int} (ls : List Int) : ∀ {ts : List (Int × Int)} {ws : List V}, ws.length = ts.length → (∀ x ∈ ws, x = V.non ∨ ∃ f, x = V.int f ∧ 0 ≤ f ∧ f < k) → (inside ls (laidT ts ws) : Int) = ((upTo k).map fun f => (inside ls (layerOf ts ws f) : Int)).sum
  | [], [], _, _ => by
    have : ∀ f ∈ upTo k, (fun f => (inside ls (layerOf [] [] f) : Int)) f = 0 := fun f _ => rfl
    exact (sum_zero _ this).symm
  | t :: ts, x :: ws, hl, hx => by
    have ih := inside_laid ls (ts := ts) (ws := ws) (Nat.succ.inj hl) fun y hy => hx y (List.mem_cons_of_mem _ hy)
    have e : (fun f => (inside ls (layerOf (t :: ts) (x :: ws) f) : Int)) = fun f => (inside ls (if x = V.int f then [t] else []) : Int) + (inside ls (layerOf ts ws f) : Int) := by
      funext f
      rw [layerOf_cons, inside_app, Int.natCast_add]
    rw [e, sum_add, laidT_cons, inside_app, Int.natCast_add, ih]
    congr 1
    rcases hx x List.mem_cons_self with rfl | ⟨f, rfl, f0, f1⟩
    · rw [if_pos rfl]
      refine (sum_zero _ fun f _ => ?_).symm
      rw [if_neg (fun z => nomatch z)]
      rfl
    · rw [if_neg (fun z => nomatch z)]
      rw [sum_one (m := f) _ (upTo_nd k) (upTo_mem.mpr ⟨f0, f1⟩) fun y _ hy => ?_]
      · rw [if_pos rfl]
      · rw [if_neg fun z => hy (V.int.inj z).symm]
        rfl
theorem sum_most {s : Int} {g : Int → Int} : ∀ {l : List Int}, (∀ x ∈ l, g x ≤ s) → (l.map g).sum ≤ l.length * s ∧ ((l.map g).sum = l.length * s ↔ ∀ x ∈ l, g x = s)
  | [], _ => by simp
  | x :: l, h => by
    obtain ⟨i1, i2⟩ := sum_most (l := l) fun y hy => h y (List.mem_cons_of_mem _ hy)
    have hx := h x List.mem_cons_self
    have e : ((x :: l).length : Int) * s = (l.length : Int) * s + s := by
      rw [List.length_cons, Int.natCast_add, Int.add_mul]
      show _ + 1 * s = _
      rw [Int.one_mul]
    rw [List.map_cons, List.sum_cons, e]
    generalize (l.length : Int) * s = c at *
    refine ⟨by omega, fun z y hy => ?_, fun z => ?_⟩
    · have h1 : (l.map g).sum = c := by omega
      rcases List.mem_cons.mp hy with rfl | hy
      · omega
      · exact i2.mp h1 y hy
    · have h1 := i2.mpr fun y hy => z y (List.mem_cons_of_mem _ hy)
      have h2 := z x List.mem_cons_self
      omega
/-- a laying's forests, and none beyond k -/
structure LayK (ts : List (Int × Int)) (k : Int) (ws : List V) : Prop where
  len : ws.length = ts.length
  each : ∀ x ∈ ws, x = V.non ∨ ∃ f, x = V.int f ∧ 0 ≤ f ∧ f < k
  tree : ∀ f, ringlessF (fun x => x) (layerOf ts ws f) = true
theorem LayK.more {ts : List (Int × Int)} {k k' : Int} {ws : List V} (h : LayK ts k ws) (hk : k ≤ k') : LayK ts k' ws := ⟨h.len, fun x hx => (h.each x hx).imp id fun ⟨f, e, f0, f1⟩ => ⟨f, e, f0, Int.lt_of_lt_of_le f1 hk⟩, h.tree⟩
theorem tight_iff {ts : List (Int × Int)} {k : Int} {ws : List V} (h : LayK ts k ws) (hk : 0 ≤ k) {ls : List Int} (hn : ls.Nodup) (he : ls ≠ []) : ((inside ls (laidT ts ws) : Int) = k * ((ls.length : Int) - 1)) ↔ ∀ f, 0 ≤ f → f < k → (inside ls (layerOf ts ws f) : Int) = (ls.length : Int) - 1 := by
  rw [inside_laid ls h.len h.each]
  have hm := sum_most (s := (ls.length : Int) - 1) (g := fun f => (inside ls (layerOf ts ws f) : Int)) (l := upTo k) fun f _ => by
    have := inside_forest (h.tree f) hn he
    show (inside ls (layerOf ts ws f) : Int) ≤ _
    omega
  have hl : ((upTo k).length : Int) = k := by rw [upTo_length]; omega
  rw [hl] at hm
  rw [hm.2]
  exact ⟨fun z f f0 f1 => z f (upTo_mem.mpr ⟨f0, f1⟩), fun z f hf => z f (upTo_mem.mp hf).1 (upTo_mem.mp hf).2⟩
/-! ### all lots -/
def lotsF : Nat → List (List Int)
  | 0 => [[]]
  | n + 1 => lotsF n ++ (lotsF n).map fun l => l ++ [(n : Int)]
theorem lotsF_ok : ∀ (n : Nat) (l : List Int), l ∈ lotsF n → l.Pairwise (· < ·) ∧ (∀ x ∈ l, 0 ≤ x ∧ x < (n : Int)) ∧ l.length ≤ n
  | 0, l, h => by
    rw [List.mem_singleton.mp h]
    exact ⟨.nil, (fun _ z => nomatch z), Nat.le_refl _⟩
  | n + 1, l, h => by
    rcases List.mem_append.mp (show l ∈ lotsF n ++ (lotsF n).map fun l => l ++ [(n : Int)] from h) with h | h
    · obtain ⟨h1, h2, h3⟩ := lotsF_ok n l h
      exact ⟨h1, fun x hx => by have := h2 x hx; omega, by omega⟩
    · obtain ⟨l', h', rfl⟩ := List.mem_map.mp h
      obtain ⟨h1, h2, h3⟩ := lotsF_ok n l' h'
      refine ⟨?_, fun x hx => ?_, by rw [List.length_append]; exact Nat.succ_le_succ h3⟩
      · rw [List.pairwise_append]
        exact ⟨h1, List.pairwise_singleton _ _, fun a ha b hb => by rw [List.mem_singleton.mp hb]; exact (h2 a ha).2⟩
      · rcases List.mem_append.mp hx with hx | hx
        · have := h2 x hx; omega
        · rw [List.mem_singleton.mp hx]; omega
theorem lotsF_all : ∀ (n : Nat) {l : List Int}, l.Pairwise (· < ·) → (∀ x ∈ l, 0 ≤ x ∧ x < (n : Int)) → l ∈ lotsF n
  | 0, l, _, h => by
    cases l with
    | nil => exact List.mem_singleton.mpr rfl
    | cons x r => have := h x List.mem_cons_self; omega
  | n + 1, l, hp, h => by
    show l ∈ lotsF n ++ (lotsF n).map fun l => l ++ [(n : Int)]
    by_cases hn : (n : Int) ∈ l
    · refine List.mem_append_right _ (List.mem_map.mpr ⟨l.filter fun x => decide (x < n), lotsF_all n (hp.filter _) (fun x hx => ?_), ?_⟩)
      · have h1 := (List.mem_filter.mp hx)
        have := of_decide_eq_true h1.2
        exact ⟨(h x h1.1).1, this⟩
      · refine up_same ?_ hp fun x => ?_
        · rw [List.pairwise_append]
          exact ⟨hp.filter _, List.pairwise_singleton _ _, fun a ha b hb => by rw [List.mem_singleton.mp hb]; exact of_decide_eq_true (List.mem_filter.mp ha).2⟩
        · rw [List.mem_append, List.mem_filter, List.mem_singleton, decide_eq_true_eq]
          constructor
          · rintro (⟨a, _⟩ | rfl)
            · exact a
            · exact hn
          · intro hx
            have := h x hx
            by_cases e : x = n
            · exact .inr e
            · exact .inl ⟨hx, by omega⟩
    · refine List.mem_append_left _ (lotsF_all n hp fun x hx => ?_)
      have := h x hx
      have : x ≠ n := fun z => hn (z ▸ hx)
      omega
theorem Lots.tys {H : Hp} {rs : List V} {pss : List (List Int)} (h : Lots H rs pss) : ∀ r ∈ rs, ∃ ls q, ls ∈ pss ∧ r = .ref q ∧ H q = some (.tup (ls.map V.int)) := fun r hr => by
  obtain ⟨i, hi⟩ := List.mem_iff_getElem?.mp hr
  obtain ⟨ls, q, e, er, hq⟩ := h.get hi
  exact ⟨ls, q, List.mem_of_getElem? e, er, hq⟩
theorem ringlessF_sub {L L' : List (Int × Int)} (s : L'.Sublist L) (h : ringlessF (fun x => x) L = true) : ringlessF (fun x => x) L' = true := by
  obtain ⟨r, hp⟩ := s.exists_perm_append
  rw [ringlessF_perm hp] at h
  cases e : ringlessF (fun x => x) L' with
  | true => rfl
  | false => rw [ringlessF_bad _ _ _ e] at h; cases h
theorem layerOf_nons (ts : List (Int × Int)) (f : Int) : ∀ m : Nat, layerOf ts (List.replicate m .non) f = [] := fun m => by
  unfold layerOf
  rw [List.map_eq_nil_iff, List.filter_eq_nil_iff]
  intro p hp
  have := (List.of_mem_zip (a := p.1) (b := p.2) hp).2
  rw [List.eq_of_mem_replicate this]
  exact fun z => nomatch of_decide_eq_true z
theorem LayK.none (ts : List (Int × Int)) {k : Int} : LayK ts k (List.replicate ts.length .non) := ⟨List.length_replicate, fun x hx => .inl (List.eq_of_mem_replicate hx), fun f => by rw [layerOf_nons]; rfl⟩
theorem Lot.nd {n : Int} {ls : List Int} (h : Lot n ls) : ls.Nodup := h.up.imp fun z => by omega
end FF
namespace FF
open PySem PySem.Spec PyProof.Rows L2
variable [LT]
/-! ### trees -/
theorem LayK.o {ts : List (Int × Int)} {k : Int} {ws : List V} (h : LayK ts k ws) : layO ts k (some ws) = true := layO_good h.len (fun x hx => by
  rcases h.each x hx with rfl | ⟨f, rfl, f0, f1⟩
  · rfl
  · show (decide (0 ≤ f) && decide (f ≤ k - 1)) = true
    rw [decide_eq_true f0, decide_eq_true (by omega : f ≤ k - 1)]; rfl) fun f _ => h.tree f
/-! ### ties with their forests -/
/-! ### rows of a tie and its forest, in the heap -/
end FF
namespace FF
open PySem PySem.Spec PyProof.Rows L2
variable [LT]
theorem LayK.nil {k : Int} : LayK [] k [] := ⟨rfl, (fun _ z => nomatch z), fun _ => rfl⟩
theorem share1 {C : Prop} {R1 : Hp → Prop} (P1 : Hp → Prop) (h1 : ∀ G, R1 G → P1 G) (main : (∀ G, R1 G → P1 G) → C) : C := main h1
section
variable {X : Cx} {K : PySem.W.Frag} {a b : Expr} {ta tb : TE} {rest : List Expr} {pos : Pos}
end
theorem zip_erase {α β : Type} : ∀ (xs : List α) (ys : List β) (g : Nat), xs.length = ys.length → (xs.eraseIdx g).zip (ys.eraseIdx g) = (xs.zip ys).eraseIdx g
  | [], [], _, _ => rfl
  | x :: xs, y :: ys, 0, _ => rfl
  | x :: xs, y :: ys, g + 1, h => by
    show (x, y) :: (xs.eraseIdx g).zip (ys.eraseIdx g) = (x, y) :: (xs.zip ys).eraseIdx g
    rw [zip_erase xs ys g (Nat.succ.inj h)]
  | [], _ :: _, _, h => by cases h
  | _ :: _, [], _, h => by cases h
theorem LayK.erase {ts : List (Int × Int)} {k : Int} {ws : List V} (h : LayK ts k ws) {g : Nat} (hg : g < ts.length) : LayK (ts.eraseIdx g) k (ws.eraseIdx g) := by
  have hl := h.len
  refine ⟨by rw [List.length_eraseIdx, List.length_eraseIdx, if_pos hg, if_pos (by omega), hl], fun x hx => h.each x (List.mem_of_mem_eraseIdx hx), fun f => ringlessF_sub ?_ (h.tree f)⟩
  unfold layerOf
  rw [zip_erase ts ws g hl.symm]
  exact ((List.eraseIdx_sublist _ _).filter _).map _
theorem Ties.erase {H : Hp} : ∀ {rs : List V} {ts : List (Int × Int)} (g : Nat), Ties H rs ts → Ties H (rs.eraseIdx g) (ts.eraseIdx g)
  | _, _, _, .nil => .nil
  | _, _, 0, .cons _ t => t
  | _, _, g + 1, .cons h t => .cons h (Ties.erase g t)
end FF
namespace FF
open PySem PySem.Spec PyProof.Rows L2
variable [LT]
/-! ### exchanges in forests -/
abbrev tk (ts : List (Int × Int)) (a : Int) : Int × Int := ts.getD a.toNat (0, 0)
abbrev jn (ts : List (Int × Int)) (ms : List Int) (x y : Int) : Prop := foldR (fun x => x) (pick ts ms) x = foldR (fun x => x) (pick ts ms) y
theorem way_of {ts : List (Int × Int)} : ∀ (n : Nat) (ms : List Int), ms.length = n → ms.Nodup → ∀ x y, jn ts ms x y → ∃ ns, Way ts x ns y ∧ ns.Nodup ∧ ∀ m ∈ ns, m ∈ ms
  | 0, ms, hl, _, x, y, h => by
    have : ms = [] := List.length_eq_zero_iff.mp hl
    subst this
    have h : x = y := h
    subst h
    exact ⟨[], .nil x, List.nodup_nil, fun _ z => nomatch z⟩
  | n + 1, ms, hl, hnd, x, y, h => by
    have hne : ms ≠ [] := fun z => by rw [z] at hl; cases hl
    obtain ⟨is, m, rfl⟩ : ∃ is m, ms = is ++ [m] := ⟨ms.dropLast, ms.getLast hne, (List.dropLast_concat_getLast hne).symm⟩
    have hnd' := List.nodup_append.mp hnd
    have hmi : m ∉ is := fun z => hnd'.2.2 m z m List.mem_cons_self rfl
    have hil : is.length = n := by rw [List.length_append] at hl; exact Nat.succ.inj hl
    have ih := way_of (ts := ts) n is hil hnd'.1
    by_cases c : jn ts is x y
    · obtain ⟨ns, w, nd, hm⟩ := ih x y c
      exact ⟨ns, w, nd, fun k hk => List.mem_append_left _ (hm k hk)⟩
    have e : foldR (fun x => x) (pick ts (is ++ [m])) = rstep (foldR (fun x => x) (pick ts is)) (tk ts m) := by rw [pick_append]; exact foldR_snoc _ _ _
    unfold jn at h
    rw [e] at h
    -- a way over m
    have go : ∀ u v p q, jn ts is u p → jn ts is q v → ¬ jn ts is u v → Leads ts m p q → ∃ ns, Way ts u ns v ∧ ns.Nodup ∧ ∀ k ∈ ns, k ∈ is ++ [m] := fun u v p q h1 h2 h3 hL => by
      obtain ⟨n1, w1, d1, s1⟩ := ih u p h1
      obtain ⟨n2, w2, d2, s2⟩ := ih q v h2
      refine ⟨n1 ++ m :: n2, w1.append (.cons hL w2), ?_, fun k hk => ?_⟩
      · rw [List.nodup_append, List.nodup_cons]
        refine ⟨d1, ⟨fun z => hmi (s2 m z), d2⟩, fun a ha b hb => ?_⟩
        rcases List.mem_cons.mp hb with rfl | hb
        · exact fun z => hmi (z ▸ s1 a ha)
        · rintro rfl
          obtain ⟨l1, l2, u1, v1, el, x1, x2, x3⟩ := w1.cut ha
          obtain ⟨k1, k2, u2, v2, ek, z1, z2, z3⟩ := w2.cut hb
          have e1 : jn ts is u u1 := x1.joined fun k hk => s1 k (by rw [el]; exact List.mem_append_left _ hk)
          have e2 : jn ts is v2 v := z3.joined fun k hk => s2 k (by rw [ek]; exact List.mem_append_right _ (List.mem_cons_of_mem _ hk))
          have e3 : jn ts is u2 v2 := z2.foldR (s2 a hb)
          have e4 : jn ts is u1 v1 := x2.foldR (s1 a ha)
          have e5 : jn ts is u1 v2 := by
            rcases x2 with x2 | x2 <;> rcases z2 with z2 | z2 <;> rw [x2] at z2
            · cases z2; exact e4
            · have := Prod.mk.inj z2; rw [this.1]
            · have := Prod.mk.inj z2; rw [← this.2]
            · cases z2; exact e4
          exact h3 (e1.trans (e5.trans e2))
      · rcases List.mem_append.mp hk with hk | hk
        · exact List.mem_append_left _ (s1 k hk)
        · rcases List.mem_cons.mp hk with rfl | hk
          · exact List.mem_append_right _ List.mem_cons_self
          · exact List.mem_append_left _ (s2 k hk)
    have h : (if foldR (fun x => x) (pick ts is) x = foldR (fun x => x) (pick ts is) (tk ts m).2 then foldR (fun x => x) (pick ts is) (tk ts m).1 else foldR (fun x => x) (pick ts is) x) = (if foldR (fun x => x) (pick ts is) y = foldR (fun x => x) (pick ts is) (tk ts m).2 then foldR (fun x => x) (pick ts is) (tk ts m).1 else foldR (fun x => x) (pick ts is) y) := h
    by_cases c1 : jn ts is x (tk ts m).2
    · by_cases c2 : jn ts is y (tk ts m).2
      · exact absurd (c1.trans c2.symm) c
      · rw [if_pos c1, if_neg c2] at h
        exact go x y (tk ts m).2 (tk ts m).1 c1 h c (.inr rfl)
    · by_cases c2 : jn ts is y (tk ts m).2
      · rw [if_neg c1, if_pos c2] at h
        exact go x y (tk ts m).1 (tk ts m).2 h c2.symm c (.inl rfl)
      · rw [if_neg c1, if_neg c2] at h
        exact absurd h c
theorem ring_exists {ts : List (Int × Int)} {ms : List Int} (hn : ms.Nodup) {x y : Int} (h : jn ts ms x y) : ∃ ns, IsRing ts ms x y ns := by
  obtain ⟨ns, w, nd, hm⟩ := way_of _ ms rfl hn x y h
  exact ⟨ns, w, nd, hm⟩
/-- a forest: its ties by their numbers -/
structure Fo (ts : List (Int × Int)) (ms : List Int) : Prop where
  nd : ms.Nodup
  rl : ringlessF (fun x => x) (pick ts ms) = true
/-- x is on the ring that a closes in ms -/
def OnR (ts : List (Int × Int)) (ms : List Int) (a x : Int) : Prop := x ∈ ms ∧ ¬ jn ts (but x ms) (tk ts a).1 (tk ts a).2
theorem Fo.same {ts : List (Int × Int)} {ms ns : List Int} (h : Fo ts ms) (hn : ns.Nodup) (hm : ∀ x, x ∈ ns ↔ x ∈ ms) : Fo ts ns := by
  have p : ns.Perm ms := (List.perm_ext_iff_of_nodup hn h.nd).mpr hm
  refine ⟨hn, ?_⟩
  exact (ringlessF_perm (show (pick ts ns).Perm (pick ts ms) from p.map _) _).trans h.rl
theorem Fo.but {ts : List (Int × Int)} {ms : List Int} (h : Fo ts ms) (b : Int) : Fo ts (but b ms) :=
  ⟨h.nd.filter _, ringlessF_sub (List.filter_sublist.map _) h.rl⟩
theorem Fo.add {ts : List (Int × Int)} {ms : List Int} {a : Int} (h : Fo ts ms) (ha : a ∉ ms) (hj : ¬ jn ts ms (tk ts a).1 (tk ts a).2) : Fo ts (ms ++ [a]) := by
  refine ⟨?_, ?_⟩
  · rw [List.nodup_append]
    exact ⟨h.nd, by simp, fun x hx y hy => by rw [List.mem_singleton.mp hy]; exact fun z => ha (z ▸ hx)⟩
  · rw [pick_append]
    show ringlessF _ (pick ts ms ++ [tk ts a]) = true
    rw [ringlessF_more h.rl, decide_eq_false hj]
    rfl
theorem jn_sub {ts : List (Int × Int)} {ms ns : List Int} (h : ∀ x ∈ ms, x ∈ ns) {x y : Int} (hj : jn ts ms x y) : jn ts ns x y := foldR_sub (fun t ht => by
  obtain ⟨m, hm, rfl⟩ := List.mem_map.mp ht
  exact List.mem_map.mpr ⟨m, h m hm, rfl⟩) x y hj
theorem OnR.not_in {ts : List (Int × Int)} {ms : List Int} {a b : Int} (h : OnR ts ms a b) (ha : a ∉ ms) : a ∉ FF.but b ms := fun z => ha (mem_but.mp z).1
theorem Fo.swap {ts : List (Int × Int)} {ms : List Int} {a b : Int} (h : Fo ts ms) (ha : a ∉ ms) (hb : OnR ts ms a b) : Fo ts (FF.but b ms ++ [a]) := (h.but b).add (hb.not_in ha) hb.2
/-- the ring of another tie stays, if what goes is not on it -/
theorem ring_stays {ts : List (Int × Int)} {ms ns : List Int} {a : Int} (h : Fo ts ms) (h' : Fo ts ns) (hj : jn ts ms (tk ts a).1 (tk ts a).2) (hs : ∀ x, OnR ts ms a x → x ∈ ns) : jn ts ns (tk ts a).1 (tk ts a).2 ∧ ∀ x, OnR ts ns a x ↔ OnR ts ms a x := by
  obtain ⟨rs, hR⟩ := ring_exists h.nd hj
  have h1 := hR.mem_iff h.rl h.nd
  have hR' : IsRing ts ns (tk ts a).1 (tk ts a).2 rs := ⟨hR.way, hR.nd, fun m hm => hs m ((h1 m).mp hm)⟩
  have h2 := hR'.mem_iff h'.rl h'.nd
  exact ⟨hR'.way.joined hR'.mem, fun x => (h2 x).symm.trans (h1 x)⟩
theorem OnR.jn {ts : List (Int × Int)} {ms : List Int} {a b : Int} (_ : OnR ts ms a b) (hj : jn ts ms (tk ts a).1 (tk ts a).2) : FF.jn ts ms (tk ts a).1 (tk ts a).2 := hj
/-- several exchanges one after another: each next pair of the list comes earlier in the row -/
theorem Fo.swaps {ts : List (Int × Int)} : ∀ (ps : List (Int × Int)) {ms : List Int}, Fo ts ms → (ps.map Prod.fst).Nodup → (∀ p ∈ ps, p.1 ∉ ms ∧ FF.jn ts ms (tk ts p.1).1 (tk ts p.1).2 ∧ OnR ts ms p.1 p.2) → ps.Pairwise (fun p q => ¬ OnR ts ms q.1 p.2) → ∃ ns, Fo ts ns ∧ ∀ x, x ∈ ns ↔ (x ∈ ms ∧ x ∉ ps.map Prod.snd) ∨ x ∈ ps.map Prod.fst
  | [], ms, h, _, _, _ => ⟨ms, h, fun x => by simp⟩
  | (a, b) :: ps, ms, h, hnd, hp, hw => by
    obtain ⟨ha, hj, hb⟩ := hp (a, b) List.mem_cons_self
    obtain ⟨w1, w2⟩ := List.pairwise_cons.mp hw
    obtain ⟨n1, n2⟩ := List.nodup_cons.mp (show (a :: ps.map Prod.fst).Nodup from hnd)
    have h' := h.swap ha hb
    have keep : ∀ p ∈ ps, FF.jn ts (FF.but b ms ++ [a]) (tk ts p.1).1 (tk ts p.1).2 ∧ ∀ x, OnR ts (FF.but b ms ++ [a]) p.1 x ↔ OnR ts ms p.1 x := fun p hpm => by
      obtain ⟨_, hj', _⟩ := hp p (List.mem_cons_of_mem _ hpm)
      refine ring_stays h h' hj' fun x hx => List.mem_append_left _ (mem_but.mpr ⟨hx.1, fun z => w1 p hpm (z ▸ hx)⟩)
    obtain ⟨ns, hF, hm⟩ := Fo.swaps ps h' n2 (fun p hpm => by
      obtain ⟨p1, p2, p3⟩ := hp p (List.mem_cons_of_mem _ hpm)
      obtain ⟨k1, k2⟩ := keep p hpm
      refine ⟨fun z => ?_, k1, (k2 _).mpr p3⟩
      rcases List.mem_append.mp z with z | z
      · exact p1 (mem_but.mp z).1
      · exact n1 (List.mem_map.mpr ⟨p, hpm, List.mem_singleton.mp z⟩)) (w2.imp_of_mem fun {p q} hpm hqm hpq => fun z => hpq (((keep q hqm).2 _).mp z))
    refine ⟨ns, hF, fun x => ?_⟩
    rw [hm x, List.mem_append, mem_but, List.mem_singleton, List.map_cons, List.map_cons, List.mem_cons, List.mem_cons]
    constructor
    · rintro (⟨⟨x1, x2⟩ | x1, x3⟩ | x1)
      · exact .inl ⟨x1, fun z => z.elim x2 x3⟩
      · exact .inr (.inl x1)
      · exact .inr (.inr x1)
    · rintro (⟨x1, x2⟩ | x1 | x1)
      · exact .inl ⟨.inl ⟨x1, fun z => x2 (.inl z)⟩, fun z => x2 (.inr z)⟩
      · refine .inl ⟨.inr x1, fun z => ?_⟩
        obtain ⟨p, hpm, e⟩ := List.mem_map.mp z
        have := (hp p (List.mem_cons_of_mem _ hpm)).2.2.1
        rw [e, x1] at this
        exact ha this
      · exact .inr x1
end FF
namespace FF
open PySem PySem.Spec PyProof.Rows L2
variable [LT]
/-- a laying after pushes -/
def pushL (ws : List V) (es : List (Int × Int)) : List V := es.foldl (fun w e => w.set e.1.toNat (.int e.2)) ws
theorem pushL_length (es : List (Int × Int)) : ∀ ws : List V, (pushL ws es).length = ws.length := by
  induction es with
  | nil => exact fun _ => rfl
  | cons e es ih => exact fun ws => (ih _).trans List.length_set
theorem nums_iff {f : Int} {ws : List V} {x : Int} : x ∈ numsFrom f 0 ws ↔ 0 ≤ x ∧ ws[x.toNat]? = some (.int f) := by
  constructor
  · intro h
    obtain ⟨k, e, hk⟩ := nums_at h
    have := nums_bd f 0 ws x h
    rw [show x.toNat = k by omega]
    exact ⟨by omega, hk⟩
  · rintro ⟨h0, h⟩
    have := mem_nums (i := 0) h
    rw [Nat.zero_add, Int.toNat_of_nonneg h0] at this
    exact this
theorem fo_nums {ts : List (Int × Int)} {ws : List V} {f : Int} (hl : ws.length = ts.length) : Fo ts (numsFrom f 0 ws) ↔ ringlessF (fun x => x) (layerOf ts ws f) = true := by
  have e : pick ts (numsFrom f 0 ws) = layerOf ts ws f := pick_nums f [] ts ws hl.symm
  exact ⟨fun h => by rw [← e]; exact h.rl, fun h => ⟨nums_nd f 0 ws, by rw [e]; exact h⟩⟩
theorem jn_join {ts : List (Int × Int)} {ws : List V} {e : Int × Int} (hl : ws.length = ts.length) : joinB ts ws e = true ↔ jn ts (numsFrom e.2 0 ws) (tk ts e.1).1 (tk ts e.1).2 := by
  unfold joinB jn
  rw [decide_eq_true_eq, show pick ts (numsFrom e.2 0 ws) = layerOf ts ws e.2 from pick_nums e.2 [] ts ws hl.symm]
/-! ### what a row without short cuts makes of a laying -/
theorem pushL_in : ∀ (es : List (Int × Int)) {ws : List V} {e : Int × Int}, (es.map Prod.fst).Nodup → (∀ e ∈ es, 0 ≤ e.1 ∧ e.1 < (ws.length : Int)) → e ∈ es → (pushL ws es)[e.1.toNat]? = some (.int e.2)
  | d :: es, ws, e, hn, hb, he => by
    obtain ⟨n1, n2⟩ := List.nodup_cons.mp (show (d.1 :: es.map Prod.fst).Nodup from hn)
    show (pushL (ws.set d.1.toNat (.int d.2)) es)[e.1.toNat]? = _
    have hb' : ∀ e ∈ es, 0 ≤ e.1 ∧ e.1 < ((ws.set d.1.toNat (.int d.2)).length : Int) := fun e' h' => by rw [List.length_set]; exact hb e' (List.mem_cons_of_mem _ h')
    rcases List.mem_cons.mp he with rfl | he
    · rw [pushL_out es (fun z => n1 z) hb' (hb e List.mem_cons_self).1]
      have := hb e List.mem_cons_self
      exact List.getElem?_set_self (by omega)
    · exact pushL_in es n2 hb' he
where
  pushL_out : ∀ (es : List (Int × Int)) {ws : List V} {x : Int}, x ∉ es.map Prod.fst → (∀ e ∈ es, 0 ≤ e.1 ∧ e.1 < (ws.length : Int)) → 0 ≤ x → (pushL ws es)[x.toNat]? = ws[x.toNat]?
    | [], _, _, _, _, _ => rfl
    | d :: es, ws, x, hx, hb, x0 => by
      have hx : x ∉ d.1 :: es.map Prod.fst := hx
      have h1 : x ≠ d.1 := fun z => hx (by rw [z]; exact List.mem_cons_self)
      have h2 : x ∉ es.map Prod.fst := fun z => hx (List.mem_cons_of_mem _ z)
      show (pushL (ws.set d.1.toNat (.int d.2)) es)[x.toNat]? = _
      rw [pushL_out es h2 (fun e' h' => by rw [List.length_set]; exact hb e' (List.mem_cons_of_mem _ h')) x0]
      have := (hb d List.mem_cons_self).1
      exact List.getElem?_set_ne (by omega)
def pairsF (f : Int) : List (Int × Int) → List (Int × Int)
  | e :: e' :: r => (if e.2 = f then [(e.1, e'.1)] else []) ++ pairsF f (e' :: r)
  | _ => []
/-- no short cut -/
def NoCut (ts : List (Int × Int)) (ws : List V) : List (Int × Int) → Prop
  | [] => True
  | e :: r => (∀ q ∈ r.tail, ¬ OnRing ts ws e q.1) ∧ NoCut ts ws r
theorem pairs_snd {f : Int} : ∀ {e : Int × Int} {r : List (Int × Int)} {p : Int × Int}, p ∈ pairsF f (e :: r) → ∃ q ∈ r, q.1 = p.2
  | e, e' :: r, p, h => by
    rcases List.mem_append.mp (show p ∈ (if e.2 = f then [(e.1, e'.1)] else []) ++ pairsF f (e' :: r) from h) with h | h
    · split at h
      · rw [List.mem_singleton.mp h]
        exact ⟨e', List.mem_cons_self, rfl⟩
      · cases h
    · obtain ⟨q, hq, e⟩ := pairs_snd h
      exact ⟨q, List.mem_cons_of_mem _ hq, e⟩
theorem pairs_fst {f : Int} : ∀ {es : List (Int × Int)}, ((pairsF f es).map Prod.fst).Sublist (es.map Prod.fst)
  | [] => .refl _
  | [e] => List.nil_sublist _
  | e :: e' :: r => by
    have ih := pairs_fst (f := f) (es := e' :: r)
    show (((if e.2 = f then [(e.1, e'.1)] else []) ++ pairsF f (e' :: r)).map Prod.fst).Sublist (e.1 :: (e' :: r).map Prod.fst)
    rw [List.map_append]
    split
    · exact ih.cons₂ _
    · exact ih.cons _
theorem pairs_ok {ts : List (Int × Int)} {ws : List V} {f : Int} (hl : ws.length = ts.length) : ∀ {es : List (Int × Int)}, pushB ts ws es = true → ∀ p ∈ pairsF f es, (p.1, f) ∈ es ∧ jn ts (numsFrom f 0 ws) (tk ts p.1).1 (tk ts p.1).2 ∧ OnR ts (numsFrom f 0 ws) p.1 p.2
  | e :: e' :: r, h, p, hp => by
    have h : ((joinB ts ws e && @decide (OnRing ts ws e e'.1) (Classical.propDecidable _)) && pushB ts ws (e' :: r)) = true := h
    rw [Bool.and_eq_true, Bool.and_eq_true] at h
    obtain ⟨⟨h1, h2⟩, h3⟩ := h
    rcases List.mem_append.mp (show p ∈ (if e.2 = f then [(e.1, e'.1)] else []) ++ pairsF f (e' :: r) from hp) with hp | hp
    · split at hp
      · rename_i ef
        rw [List.mem_singleton.mp hp]
        subst ef
        exact ⟨List.mem_cons_self, (jn_join hl).mp h1, @of_decide_eq_true _ (Classical.propDecidable _) h2⟩
      · cases hp
    · obtain ⟨a, b, c⟩ := pairs_ok hl h3 p hp
      exact ⟨List.mem_cons_of_mem _ a, b, c⟩
theorem pairs_apart {ts : List (Int × Int)} {ws : List V} {f : Int} : ∀ {es : List (Int × Int)}, NoCut ts ws es → (pairsF f es).Pairwise fun p q => ¬ OnR ts (numsFrom f 0 ws) p.1 q.2
  | [], _ => .nil
  | [e], _ => .nil
  | e :: e' :: r, h => by
    have ih := pairs_apart (f := f) (es := e' :: r) h.2
    show ((if e.2 = f then [(e.1, e'.1)] else []) ++ pairsF f (e' :: r)).Pairwise _
    rw [List.pairwise_append]
    refine ⟨by split <;> simp, ih, fun p hp q hq => ?_⟩
    split at hp
    · rename_i ef
      rw [List.mem_singleton.mp hp]
      obtain ⟨q', hq', e2⟩ := pairs_snd hq
      subst ef
      have := h.1 q' hq'
      rw [e2] at this
      exact this
    · cases hp
theorem pairs_has {f : Int} : ∀ {es : List (Int × Int)} {e : Int × Int}, e ∈ es → e.2 = f → (∃ b, (e.1, b) ∈ pairsF f es) ∨ es.getLast? = some e
  | [d], e, he, _ => .inr (by rw [List.mem_singleton.mp he]; rfl)
  | d :: d' :: r, e, he, ef => by
    rcases List.mem_cons.mp he with rfl | he
    · refine .inl ⟨d'.1, ?_⟩
      show (e.1, d'.1) ∈ (if e.2 = f then [(e.1, d'.1)] else []) ++ pairsF f (d' :: r)
      rw [if_pos ef]
      exact List.mem_cons_self
    · rcases pairs_has he ef with ⟨b, hb⟩ | h
      · exact .inl ⟨b, List.mem_append_right _ hb⟩
      · exact .inr (by rw [List.getLast?_cons_cons]; exact h)
/-- what is pushed away from a forest -/
theorem pairs_gone {ts : List (Int × Int)} {ws : List V} {f : Int} : ∀ {e : Int × Int} {r : List (Int × Int)}, pushB ts ws (e :: r) = true → ∀ q ∈ r, q.1 ∈ numsFrom f 0 ws → q.1 ∈ (pairsF f (e :: r)).map Prod.snd
  | e, e' :: r, h, q, hq, hm => by
    have h : ((joinB ts ws e && @decide (OnRing ts ws e e'.1) (Classical.propDecidable _)) && pushB ts ws (e' :: r)) = true := h
    rw [Bool.and_eq_true, Bool.and_eq_true] at h
    obtain ⟨⟨h1, h2⟩, h3⟩ := h
    show q.1 ∈ (((if e.2 = f then [(e.1, e'.1)] else []) ++ pairsF f (e' :: r)).map Prod.snd)
    rw [List.map_append, List.mem_append]
    rcases List.mem_cons.mp hq with rfl | hq
    · have h2 : OnRing ts ws e q.1 := @of_decide_eq_true _ (Classical.propDecidable _) h2
      have a := (nums_iff.mp h2.1).2
      have b := (nums_iff.mp hm).2
      rw [a] at b
      have ef : e.2 = f := V.int.inj (Option.some.inj b)
      rw [if_pos ef]
      exact .inl List.mem_cons_self
    · exact .inr (pairs_gone h3 q hq hm)
theorem push_last {ts : List (Int × Int)} {ws : List V} : ∀ {es : List (Int × Int)} {e : Int × Int}, pushB ts ws es = true → es.getLast? = some e → joinB ts ws e = false
  | [d], e, h, hl => by
    have h : (!joinB ts ws d) = true := h
    have : d = e := Option.some.inj hl
    subst this
    cases e : joinB ts ws d with
    | false => rfl
    | true => rw [e] at h; cases h
  | d :: d' :: r, e, h, hl => by
    have h : ((joinB ts ws d && @decide (OnRing ts ws d d'.1) (Classical.propDecidable _)) && pushB ts ws (d' :: r)) = true := h
    rw [Bool.and_eq_true] at h
    rw [List.getLast?_cons_cons] at hl
    exact push_last h.2 hl
theorem pairs_not_last {f : Int} : ∀ {es : List (Int × Int)} {p e : Int × Int}, (es.map Prod.fst).Nodup → p ∈ pairsF f es → es.getLast? = some e → p.1 ≠ e.1
  | d :: d' :: r, p, e, hn, hp, hl => by
    obtain ⟨n1, n2⟩ := List.nodup_cons.mp (show (d.1 :: (d' :: r).map Prod.fst).Nodup from hn)
    rw [List.getLast?_cons_cons] at hl
    rcases List.mem_append.mp (show p ∈ (if d.2 = f then [(d.1, d'.1)] else []) ++ pairsF f (d' :: r) from hp) with hp | hp
    · split at hp
      · rw [List.mem_singleton.mp hp]
        exact fun z => n1 (List.mem_map.mpr ⟨e, List.mem_of_getLast? hl, z.symm⟩)
      · cases hp
    · exact pairs_not_last n2 hp hl
/-- a row of pushes without short cuts leaves no ring -/
theorem row_lays {ts : List (Int × Int)} {ws : List V} {e0 : Int × Int} {r : List (Int × Int)} (hl : ws.length = ts.length) (hf : ∀ f, ringlessF (fun x => x) (layerOf ts ws f) = true) (hn : ((e0 :: r).map Prod.fst).Nodup) (hb : ∀ e ∈ e0 :: r, 0 ≤ e.1 ∧ e.1 < (ts.length : Int)) (hlay : ∀ e ∈ e0 :: r, layB ws e = false) (hp : pushB ts ws (e0 :: r) = true) (h0 : ws[e0.1.toNat]? = some .non) (hc : NoCut ts ws (e0 :: r)) (f : Int) : ringlessF (fun x => x) (layerOf ts (pushL ws (e0 :: r)) f) = true := by
  have hb' : ∀ e ∈ e0 :: r, 0 ≤ e.1 ∧ e.1 < (ws.length : Int) := fun e he => by rw [hl]; exact hb e he
  rw [← fo_nums ((pushL_length _ _).trans hl)]
  have hF := (fo_nums hl).mpr (hf f)
  have hout : ∀ e ∈ e0 :: r, e.2 = f → e.1 ∉ numsFrom f 0 ws := fun e he ef z => by
    have := hlay e he
    unfold layB at this
    rw [ef, (nums_iff.mp z).2, decide_eq_true rfl] at this
    cases this
  have hps := pairs_ok (f := f) hl hp
  have hap := pairs_apart (f := f) hc
  have hnd := hn.sublist (pairs_fst (f := f) (es := e0 :: r))
  -- a free tie at the end
  obtain ⟨ms, hM, hms, hkeep⟩ : ∃ ms, Fo ts ms ∧ (∀ x, x ∈ ms ↔ x ∈ numsFrom f 0 ws ∨ ∃ e, (e0 :: r).getLast? = some e ∧ e.2 = f ∧ e.1 = x) ∧ ∀ p ∈ pairsF f (e0 :: r), p.1 ∉ ms ∧ jn ts ms (tk ts p.1).1 (tk ts p.1).2 ∧ ∀ x, OnR ts ms p.1 x ↔ OnR ts (numsFrom f 0 ws) p.1 x := by
    by_cases c : ∃ e, (e0 :: r).getLast? = some e ∧ e.2 = f
    · obtain ⟨e, he, ef⟩ := c
      have hem := List.mem_of_getLast? he
      have hj : ¬ jn ts (numsFrom f 0 ws) (tk ts e.1).1 (tk ts e.1).2 := fun z => by
        have := push_last hp he
        subst ef
        rw [(jn_join hl).mpr z] at this
        cases this
      have hM := hF.add (hout e hem ef) hj
      refine ⟨_, hM, fun x => ?_, fun p hpm => ?_⟩
      · rw [List.mem_append, List.mem_singleton]
        constructor
        · rintro (h | h)
          · exact .inl h
          · exact .inr ⟨e, he, ef, h.symm⟩
        · rintro (h | ⟨e', h1, _, h3⟩)
          · exact .inl h
          · rw [he] at h1
            cases h1
            exact .inr h3.symm
      · obtain ⟨p1, p2, p3⟩ := hps p hpm
        refine ⟨fun z => ?_, ring_stays hF hM p2 fun x hx => List.mem_append_left _ hx.1⟩
        rcases List.mem_append.mp z with z | z
        · exact hout (p.1, f) p1 rfl z
        · exact pairs_not_last hn hpm he (List.mem_singleton.mp z)
    · refine ⟨_, hF, fun x => ⟨.inl, fun h => h.elim id fun ⟨e, h1, h2, _⟩ => absurd ⟨e, h1, h2⟩ c⟩, fun p hpm => ?_⟩
      obtain ⟨p1, p2, p3⟩ := hps p hpm
      exact ⟨hout (p.1, f) p1 rfl, p2, fun _ => Iff.rfl⟩
  obtain ⟨ns, hN, hns⟩ := Fo.swaps (pairsF f (e0 :: r)).reverse hM (by rw [List.map_reverse]; exact (List.reverse_perm _).nodup_iff.mpr hnd) (fun p hpm => by
    have hpm := List.mem_reverse.mp hpm
    obtain ⟨a, b, c⟩ := hkeep p hpm
    exact ⟨a, b, (c _).mpr (hps p hpm).2.2⟩) (by
    rw [List.pairwise_reverse]
    exact hap.imp_of_mem fun {p q} hpm hqm hpq => fun z => hpq (((hkeep p hpm).2.2 _).mp z))
  refine hN.same (nums_nd _ _ _) fun x => ?_
  rw [hns x, hms x, List.map_reverse, List.map_reverse, List.mem_reverse, List.mem_reverse]
  have hgone : ∀ y, y ∈ (pairsF f (e0 :: r)).map Prod.snd → y ∈ numsFrom f 0 ws ∧ y ∈ (e0 :: r).map Prod.fst := fun y hy => by
    obtain ⟨p, hpm, rfl⟩ := List.mem_map.mp hy
    obtain ⟨q, hq, e⟩ := pairs_snd hpm
    exact ⟨(hps p hpm).2.2.1, List.mem_map.mpr ⟨q, List.mem_cons_of_mem _ hq, e⟩⟩
  constructor
  · intro h
    obtain ⟨x0, hx⟩ := nums_iff.mp h
    by_cases c : x ∈ (e0 :: r).map Prod.fst
    · obtain ⟨e, he, rfl⟩ := List.mem_map.mp c
      rw [pushL_in _ hn hb' he] at hx
      have ef : e.2 = f := V.int.inj (Option.some.inj hx)
      rcases pairs_has he ef with ⟨b, hbm⟩ | hla
      · exact .inr (List.mem_map.mpr ⟨_, hbm, rfl⟩)
      · exact .inl ⟨.inr ⟨e, hla, ef, rfl⟩, fun z => hout e he ef (hgone _ z).1⟩
    · rw [pushL_in.pushL_out _ c hb' x0] at hx
      exact .inl ⟨.inl (nums_iff.mpr ⟨x0, hx⟩), fun z => c (hgone _ z).2⟩
  · rintro (⟨h | ⟨e, h1, h2, rfl⟩, hx⟩ | h)
    · obtain ⟨x0, hw⟩ := nums_iff.mp h
      refine nums_iff.mpr ⟨x0, ?_⟩
      rw [pushL_in.pushL_out _ (fun z => ?_) hb' x0]
      · exact hw
      · obtain ⟨q, hq, rfl⟩ := List.mem_map.mp z
        rcases List.mem_cons.mp hq with rfl | hq
        · rw [h0] at hw
          cases hw
        · exact hx (pairs_gone hp q hq h)
    · have hem := List.mem_of_getLast? h1
      exact nums_iff.mpr ⟨(hb e hem).1, by rw [pushL_in _ hn hb' hem, h2]⟩
    · obtain ⟨p, hpm, rfl⟩ := List.mem_map.mp h
      have := (hps p hpm).1
      exact nums_iff.mpr ⟨(hb _ this).1, pushL_in _ hn hb' this⟩
end FF
namespace FF
open PySem PySem.Spec PyProof.Rows L2
variable [LT]
/-! ### what is reached and closed is full -/
theorem nub_one {ls : List Int} {g : Int → Int} (hne : ls ≠ []) (h : ∀ x ∈ ls, ∀ y ∈ ls, g x = g y) : (nub (ls.map g)).length = 1 := by
  cases ls with
  | nil => exact absurd rfl hne
  | cons x r =>
    have : (nub ((x :: r).map g)).length = [g x].length := nd_eq (nub_nd _) (by simp) fun k => by
      rw [mem_nub, List.mem_singleton]
      constructor
      · intro hk
        obtain ⟨y, hy, rfl⟩ := List.mem_map.mp hk
        exact h y hy x List.mem_cons_self
      · rintro rfl
        exact List.mem_map.mpr ⟨x, List.mem_cons_self, rfl⟩
    exact this
theorem tree_count {ts : List (Int × Int)} {ms : List Int} {ls : List Int} (h : Fo ts ms) (hin : ∀ m ∈ ms, (tk ts m).1 ∈ ls ∧ (tk ts m).2 ∈ ls) (hn : ls.Nodup) (hne : ls ≠ []) (hj : ∀ x ∈ ls, ∀ y ∈ ls, jn ts ms x y) : ms.length + 1 = ls.length := by
  have := lot_count (ls := ls) h.rl fun t ht => by
    obtain ⟨m, hm, rfl⟩ := List.mem_map.mp ht
    exact hin m hm
  rw [nub_one hne hj, List.map_id', nub_of_nd hn, pick_length] at this
  exact this
/-- ties that are reached: closed under pushes, and hanging together -/
structure Closed (ts : List (Int × Int)) (ws : List V) (k : Int) (R : List Int) : Prop where
  nd : R.Nodup
  rng : ∀ t ∈ R, 0 ≤ t ∧ t < (ts.length : Int)
  ring : ∀ t ∈ R, ∀ f, 0 ≤ f → f < k → ws[t.toNat]? ≠ some (.int f) → jn ts (numsFrom f 0 ws) (tk ts t).1 (tk ts t).2 ∧ ∀ x, OnR ts (numsFrom f 0 ws) t x → x ∈ R
  one : ∀ t ∈ R, ∀ s ∈ R, jn ts R (tk ts t).1 (tk ts s).1
/-- the ends of some ties -/
structure EndsOf (ts : List (Int × Int)) (R : List Int) (ls : List Int) : Prop where
  nd : ls.Nodup
  mem : ∀ x, x ∈ ls ↔ ∃ t ∈ R, x = (tk ts t).1 ∨ x = (tk ts t).2
theorem Closed.joins {ts : List (Int × Int)} {ws : List V} {k : Int} {R ls : List Int} (h : Closed ts ws k R) (hE : EndsOf ts R ls) {x y : Int} (hx : x ∈ ls) (hy : y ∈ ls) : jn ts R x y := by
  have go : ∀ z ∈ ls, ∃ t ∈ R, jn ts R z (tk ts t).1 := fun z hz => by
    obtain ⟨t, ht, e⟩ := (hE.mem z).mp hz
    refine ⟨t, ht, ?_⟩
    rcases e with rfl | rfl
    · rfl
    · exact (Leads.foldR (ts := ts) ht (.inl rfl)).symm
  obtain ⟨t, ht, e1⟩ := go x hx
  obtain ⟨s, hs, e2⟩ := go y hy
  exact e1.trans ((h.one t ht s hs).trans e2.symm)
/-- in each forest the reached ties are a tree on their ends -/
theorem Closed.tree {ts : List (Int × Int)} {ws : List V} {k : Int} {R ls : List Int} (hl : ws.length = ts.length) (h : Closed ts ws k R) (hE : EndsOf ts R ls) (hne : R ≠ []) (hf : ∀ f, ringlessF (fun x => x) (layerOf ts ws f) = true) {f : Int} (f0 : 0 ≤ f) (f1 : f < k) : inside ls (layerOf ts ws f) + 1 = ls.length := by
  have hF := (fo_nums hl).mpr (hf f)
  have hFo : Fo ts ((numsFrom f 0 ws).filter fun m => decide (m ∈ R)) := ⟨hF.nd.filter _, ringlessF_sub (List.filter_sublist.map _) hF.rl⟩
  have hlne : ls ≠ [] := by
    cases R with
    | nil => exact absurd rfl hne
    | cons t r => exact fun z => by have := (hE.mem (tk ts t).1).mpr ⟨t, List.mem_cons_self, .inl rfl⟩; rw [z] at this; cases this
  have hj : ∀ x ∈ ls, ∀ y ∈ ls, jn ts ((numsFrom f 0 ws).filter fun m => decide (m ∈ R)) x y := fun x hx y hy => by
    refine foldR_fine (g := foldR (fun x => x) (pick ts ((numsFrom f 0 ws).filter fun m => decide (m ∈ R)))) (L := pick ts R) (r := fun x => x) (fun a b e => by rw [show a = b from e]) (fun t ht => ?_) x y (h.joins hE hx hy)
    obtain ⟨m, hm, rfl⟩ := List.mem_map.mp ht
    by_cases c : ws[m.toNat]? = some (.int f)
    · have : m ∈ (numsFrom f 0 ws).filter fun m => decide (m ∈ R) := List.mem_filter.mpr ⟨nums_iff.mpr ⟨(h.rng m hm).1, c⟩, decide_eq_true hm⟩
      exact Leads.foldR (ts := ts) this (.inl rfl)
    · obtain ⟨j1, j2⟩ := h.ring m hm f f0 f1 c
      obtain ⟨ns, hR⟩ := ring_exists hF.nd j1
      have h1 := hR.mem_iff hF.rl hF.nd
      exact hR.way.joined fun x hx => List.mem_filter.mpr ⟨hR.mem x hx, decide_eq_true (j2 x ((h1 x).mp hx))⟩
  have h1 := tree_count hFo (fun m hm => by
    have := of_decide_eq_true (List.mem_filter.mp hm).2
    exact ⟨(hE.mem _).mpr ⟨m, this, .inl rfl⟩, (hE.mem _).mpr ⟨m, this, .inr rfl⟩⟩) hE.nd hlne hj
  have h2 := inside_forest (hf f) hE.nd hlne
  have h3 : ((numsFrom f 0 ws).filter fun m => decide (m ∈ R)).length ≤ inside ls (layerOf ts ws f) := by
    have e : layerOf ts ws f = pick ts (numsFrom f 0 ws) := (pick_nums f [] ts ws hl.symm).symm
    unfold inside
    rw [e]
    unfold pick
    rw [List.filter_map, List.length_map]
    refine (List.Sublist.length_le ?_)
    rw [show ((numsFrom f 0 ws).filter fun m => decide (m ∈ R)) = ((numsFrom f 0 ws).filter ((fun t => decide (t.1 ∈ ls) && decide (t.2 ∈ ls)) ∘ fun m => ts.getD m.toNat (0, 0))).filter fun m => decide (m ∈ R) from ?_]
    · exact List.filter_sublist
    · rw [List.filter_filter]
      apply List.filter_congr
      intro m _
      by_cases c : m ∈ R
      · rw [decide_eq_true c]
        show true = (true && (decide ((tk ts m).1 ∈ ls) && decide ((tk ts m).2 ∈ ls)))
        rw [decide_eq_true ((hE.mem _).mpr ⟨m, c, .inl rfl⟩), decide_eq_true ((hE.mem _).mpr ⟨m, c, .inr rfl⟩)]
        rfl
      · rw [decide_eq_false c]
        rfl
  omega
end FF
namespace FF
open PySem PySem.Spec PyProof.Rows L2
variable [LT]
theorem laid_inside (ls : List Int) : ∀ {ts : List (Int × Int)} {ws : List V}, inside ls (laidT ts ws) ≤ inside ls ts
  | [], ws => by
    unfold laidT
    rw [List.zip_nil_left]
    exact Nat.le_refl _
  | t :: ts, [] => by
    unfold laidT
    rw [List.zip_nil_right]
    exact Nat.zero_le _
  | t :: ts, x :: ws => by
    have ih := laid_inside ls (ts := ts) (ws := ws)
    rw [laidT_cons, inside_app, show t :: ts = [t] ++ ts from rfl, inside_app]
    split
    · have : inside ls [] = 0 := rfl
      omega
    · omega
theorem left_inside {ls : List Int} : ∀ {ts : List (Int × Int)} {ws : List V} {i : Nat} {t : Int × Int}, ts[i]? = some t → ws[i]? = some .non → t.1 ∈ ls → t.2 ∈ ls → inside ls (laidT ts ws) + 1 ≤ inside ls ts
  | u :: ts, x :: ws, 0, t, h1, h2, a, b => by
    cases h1
    cases h2
    rw [laidT_cons, if_pos rfl, List.nil_append, inside_cons, decide_eq_true a, decide_eq_true b]
    have := laid_inside ls (ts := ts) (ws := ws)
    show _ ≤ 1 + _
    omega
  | u :: ts, x :: ws, i + 1, t, h1, h2, a, b => by
    have ih := left_inside (ts := ts) (ws := ws) (i := i) h1 h2 a b
    rw [laidT_cons, inside_app, show u :: ts = [u] ++ ts from rfl, inside_app]
    split
    · have : inside ls [] = 0 := rfl
      omega
    · omega
  | [], _, _, _, h1, _, _, _ => by simp at h1
  | _ :: _, [], _, _, _, h2, _, _ => by simp at h2
/-- the ends of what is reached and closed are full -/
theorem Closed.full {ts : List (Int × Int)} {ws : List V} {k : Int} {R ls : List Int} (hL : LayK ts k ws) (hk : 0 ≤ k) (h : Closed ts ws k R) (hE : EndsOf ts R ls) {e : Int} (he : e ∈ R) (hn : ws[e.toNat]? = some .non) : (inside ls ts : Int) > k * ((ls.length : Int) - 1) := by
  have hne : R ≠ [] := fun z => by rw [z] at he; cases he
  have ht : (inside ls (laidT ts ws) : Int) = k * ((ls.length : Int) - 1) := by
    refine (tight_iff hL hk hE.nd ?_).mpr fun f f0 f1 => ?_
    · intro z
      have := (hE.mem (tk ts e).1).mpr ⟨e, he, .inl rfl⟩
      rw [z] at this
      cases this
    · have := h.tree hL.len hE hne hL.tree f0 f1
      omega
  have := left_inside (ls := ls) (getD_at (h.rng e he).1 (h.rng e he).2) hn ((hE.mem _).mpr ⟨e, he, .inl rfl⟩) ((hE.mem _).mpr ⟨e, he, .inr rfl⟩)
  omega
/-- a full lot lets no whole laying -/
theorem whole_inside {ts : List (Int × Int)} {ws : List V} (hl : ws.length = ts.length) (hw : ∀ x ∈ ws, x ≠ V.non) : laidT ts ws = ts := by
  induction ts generalizing ws with
  | nil =>
    unfold laidT
    rw [List.zip_nil_left]
    rfl
  | cons t ts ih =>
    cases ws with
    | nil => cases hl
    | cons x ws =>
      rw [laidT_cons, if_neg (hw x List.mem_cons_self), ih (Nat.succ.inj hl) fun y hy => hw y (List.mem_cons_of_mem _ hy)]
      rfl
theorem not_full {ts : List (Int × Int)} {k : Int} {ws : List V} (hL : LayK ts k ws) (hk : 0 ≤ k) (hw : ∀ x ∈ ws, x ≠ V.non) {ls : List Int} (hn : ls.Nodup) (hne : ls ≠ []) : (inside ls ts : Int) ≤ k * ((ls.length : Int) - 1) := by
  have e := inside_laid ls hL.len hL.each
  rw [whole_inside hL.len hw] at e
  rw [e]
  have hm := sum_most (s := (ls.length : Int) - 1) (g := fun f => (inside ls (layerOf ts ws f) : Int)) (l := upTo k) fun f _ => by
    have := inside_forest (hL.tree f) hn hne
    show (inside ls (layerOf ts ws f) : Int) ≤ _
    omega
  have hl : ((upTo k).length : Int) = k := by rw [upTo_length]; omega
  rw [hl] at hm
  exact hm.1
/-- a laying after a row of pushes without short cuts -/
theorem LayK.push {ts : List (Int × Int)} {k : Int} {ws : List V} {e0 : Int × Int} {r : List (Int × Int)} (hL : LayK ts k ws) (hn : ((e0 :: r).map Prod.fst).Nodup) (hb : ∀ e ∈ e0 :: r, (0 ≤ e.1 ∧ e.1 < (ts.length : Int)) ∧ 0 ≤ e.2 ∧ e.2 < k) (hlay : ∀ e ∈ e0 :: r, layB ws e = false) (hp : pushB ts ws (e0 :: r) = true) (h0 : ws[e0.1.toNat]? = some .non) (hc : NoCut ts ws (e0 :: r)) : LayK ts k (pushL ws (e0 :: r)) := by
  refine ⟨(pushL_length _ _).trans hL.len, ?_, row_lays hL.len hL.tree hn (fun e he => (hb e he).1) hlay hp h0 hc⟩
  have go : ∀ (es : List (Int × Int)) {ws : List V}, (∀ e ∈ es, 0 ≤ e.2 ∧ e.2 < k) → (∀ x ∈ ws, x = V.non ∨ ∃ f, x = V.int f ∧ 0 ≤ f ∧ f < k) → ∀ x ∈ pushL ws es, x = V.non ∨ ∃ f, x = V.int f ∧ 0 ≤ f ∧ f < k := fun es => by
    induction es with
    | nil => exact fun _ h => h
    | cons e es ih =>
      intro ws he h
      refine ih (ws := ws.set e.1.toNat (.int e.2)) (fun e' h' => he e' (List.mem_cons_of_mem _ h')) fun x hx => ?_
      rcases List.mem_or_eq_of_mem_set hx with hx | rfl
      · exact h x hx
      · exact .inr ⟨_, rfl, he e List.mem_cons_self⟩
  exact go _ (fun e he => (hb e he).2) hL.each
end FF
namespace FF
open PySem PySem.Spec PyProof.Rows L2
variable [LT]
/-! ### where no lot is full a whole laying is there -/
structure PRow (ts : List (Int × Int)) (ws : List V) (k : Int) (es : List (Int × Int)) : Prop where
  ne : es ≠ []
  bd : ∀ e ∈ es, (0 ≤ e.1 ∧ e.1 < (ts.length : Int)) ∧ 0 ≤ e.2 ∧ e.2 < k
  lay : ∀ e ∈ es, layB ws e = false
  push : pushB ts ws es = true
section
variable {ts : List (Int × Int)} {ws : List V} {k : Int}
theorem pushB_parts {e e' : Int × Int} {r : List (Int × Int)} : pushB ts ws (e :: e' :: r) = true ↔ joinB ts ws e = true ∧ OnRing ts ws e e'.1 ∧ pushB ts ws (e' :: r) = true := by
  show ((joinB ts ws e && @decide (OnRing ts ws e e'.1) (Classical.propDecidable _)) && pushB ts ws (e' :: r)) = true ↔ _
  rw [Bool.and_eq_true, Bool.and_eq_true, @decide_eq_true_eq _ (Classical.propDecidable _), and_assoc]
theorem PRow.tail {e e' : Int × Int} {r : List (Int × Int)} (h : PRow ts ws k (e :: e' :: r)) : PRow ts ws k (e' :: r) :=
  ⟨List.cons_ne_nil _ _, fun q hq => h.bd q (List.mem_cons_of_mem _ hq), fun q hq => h.lay q (List.mem_cons_of_mem _ hq), (pushB_parts.mp h.push).2.2⟩
theorem PRow.cons {e e' : Int × Int} {r : List (Int × Int)} (b : (0 ≤ e.1 ∧ e.1 < (ts.length : Int)) ∧ 0 ≤ e.2 ∧ e.2 < k) (l : layB ws e = false) (j : joinB ts ws e = true) (o : OnRing ts ws e e'.1) (h : PRow ts ws k (e' :: r)) : PRow ts ws k (e :: e' :: r) :=
  ⟨List.cons_ne_nil _ _, fun q hq => (List.mem_cons.mp hq).elim (fun z => z ▸ b) (h.bd q), fun q hq => (List.mem_cons.mp hq).elim (fun z => z ▸ l) (h.lay q), pushB_parts.mpr ⟨j, o, h.push⟩⟩
theorem PRow.drop : ∀ {es : List (Int × Int)} {l1 l2 : List (Int × Int)} {q : Int × Int}, PRow ts ws k es → es = l1 ++ q :: l2 → PRow ts ws k (q :: l2)
  | es, [], l2, q, h, e => by subst e; exact h
  | es, [d], l2, q, h, e => by subst e; exact PRow.tail h
  | es, d :: d' :: l1, l2, q, h, e => by subst e; exact PRow.drop (es := d' :: l1 ++ q :: l2) (PRow.tail h) rfl
/-- no row from its first tie is shorter -/
def Least (ts : List (Int × Int)) (ws : List V) (k : Int) : List (Int × Int) → Prop
  | [] => True
  | e :: r => ∀ e' r', PRow ts ws k (e' :: r') → e'.1 = e.1 → r.length ≤ r'.length
theorem Least.tail {e e' : Int × Int} {r : List (Int × Int)} (h : PRow ts ws k (e :: e' :: r)) (m : Least ts ws k (e :: e' :: r)) : Least ts ws k (e' :: r) := fun d r' hd ed => by
  have p := pushB_parts.mp h.push
  have := m e (d :: r') (PRow.cons (h.bd e List.mem_cons_self) (h.lay e List.mem_cons_self) p.1 (by rw [ed]; exact p.2.1) hd) rfl
  rw [List.length_cons, List.length_cons] at this
  omega
theorem Least.nocut : ∀ {es : List (Int × Int)}, PRow ts ws k es → Least ts ws k es → NoCut ts ws es ∧ (es.map Prod.fst).Nodup
  | [], h, _ => absurd rfl h.ne
  | [e], _, _ => ⟨⟨(fun _ z => nomatch z), trivial⟩, by simp⟩
  | e :: e' :: r, h, m => by
    obtain ⟨i1, i2⟩ := Least.nocut (PRow.tail h) (m.tail h)
    have p := pushB_parts.mp h.push
    refine ⟨⟨fun q hq z => ?_, i1⟩, ?_⟩
    · obtain ⟨l1, l2, el⟩ := List.append_of_mem (show q ∈ r from hq)
      have hd := PRow.drop (l1 := e :: e' :: l1) (l2 := l2) (q := q) h (by rw [el]; rfl)
      have := m e (q :: l2) (PRow.cons (h.bd e List.mem_cons_self) (h.lay e List.mem_cons_self) p.1 z hd) rfl
      rw [el, List.length_cons, List.length_append, List.length_cons] at this
      omega
    · show (e.1 :: (e' :: r).map Prod.fst).Nodup
      rw [List.nodup_cons]
      refine ⟨fun z => ?_, i2⟩
      obtain ⟨q, hq, eq⟩ := List.mem_map.mp z
      obtain ⟨l1, l2, el⟩ := List.append_of_mem hq
      have hd := PRow.drop (l1 := e :: l1) (l2 := l2) (q := q) h (by rw [el]; rfl)
      have := m q l2 hd eq
      rw [el, List.length_append, List.length_cons] at this
      omega
/-- what pushes come to from e -/
inductive Rch (ts : List (Int × Int)) (ws : List V) (k : Int) (e : Int) : Int → Prop where
  | base : Rch ts ws k e e
  | step {s t f : Int} (h : Rch ts ws k e s) (f0 : 0 ≤ f) (f1 : f < k) (hn : ws[s.toNat]? ≠ some (.int f)) (hj : jn ts (numsFrom f 0 ws) (tk ts s).1 (tk ts s).2) (ho : OnR ts (numsFrom f 0 ws) s t) : Rch ts ws k e t
theorem Rch.rng {e t : Int} (hl : ws.length = ts.length) (h : Rch ts ws k e t) (he : 0 ≤ e ∧ e < (ts.length : Int)) : 0 ≤ t ∧ t < (ts.length : Int) := by
  induction h with
  | base => exact he
  | step _ _ _ _ _ ho _ =>
    obtain ⟨h0, h1⟩ := nums_iff.mp ho.1
    have := (List.getElem?_eq_some_iff.mp h1).1
    exact ⟨h0, by omega⟩
theorem layB_ne {s f : Int} (h : ws[s.toNat]? ≠ some (.int f)) : layB ws (s, f) = false := decide_eq_false h
theorem Rch.back {e t : Int} (hl : ws.length = ts.length) (h : Rch ts ws k e t) (he : 0 ≤ e ∧ e < (ts.length : Int)) : (∃ d r, PRow ts ws k (d :: r) ∧ d.1 = t) → ∃ d r, PRow ts ws k (d :: r) ∧ d.1 = e := by
  induction h with
  | base => exact id
  | @step s t f hs f0 f1 hn hj ho ih =>
    rintro ⟨d, r, hp, rfl⟩
    exact ih ⟨(s, f), d :: r, PRow.cons ⟨hs.rng hl he, f0, f1⟩ (layB_ne hn) ((jn_join (e := (s, f)) hl).mpr hj) ho hp, rfl⟩
end
end FF
namespace FF
open PySem PySem.Spec PyProof.Rows L2
variable [LT]
/-! ### all ways to lay -/
end FF
namespace FF
open PySem PySem.Spec PyProof.Rows L2
variable [LT]
/-! ### things as entries and rows -/
/-- a thing as an entry: two values, or nothing of the kind -/
inductive EntT (H : Hp) : V → Option (V × V) → Prop where
  | no {t : V} {n : String} (h : TyN H t n) (hn : n ≠ "tuple") : EntT H t none
  | odd {a : Addr} {xs : List V} (h : H a = some (.tup xs)) (hl : xs.length ≠ 2) : EntT H (.ref a) none
  | yes {a : Addr} {x y : V} {n m : String} (h : H a = some (.tup [x, y])) (hx : TyN H x n) (hy : TyN H y m) : EntT H (.ref a) (some (x, y))
theorem EntT.mono {H H' : Hp} {t : V} {o : Option (V × V)} (h : EntT H t o) (k : ∀ q xs, H q = some (.tup xs) → H' q = some (.tup xs)) (y : ∀ v n, TyN H v n → TyN H' v n) : EntT H' t o := by
  cases h with
  | no h hn => exact .no (y _ _ h) hn
  | odd h hl => exact .odd (k _ _ h) hl
  | yes h hx hy => exact .yes (k _ _ h) (y _ _ hx) (y _ _ hy)
/-- a thing that can be asked as an entry -/
def EG (H : Hp) (x : V) : Prop := ∃ o, EntT H x o
theorem EG.mono {H H' : Hp} {x : V} (h : EG H x) (k : ∀ q xs, H q = some (.tup xs) → H' q = some (.tup xs)) (y : ∀ v n, TyN H v n → TyN H' v n) : EG H' x := h.elim fun o z => ⟨o, z.mono k y⟩
theorem EG.ke {H H' : Hp} {x : V} (h : EG H x) (k : Ke H H') : EG H' x := h.mono (fun _ _ => k.tup) fun _ _ z => z.ke k
theorem EG.new {H : Hp} {p : Addr} {o : HO} {x : V} (h : EG H x) (k : H p = none) : EG (upd H p o) x := h.ke (Ke.new k)
theorem EG.put {H : Hp} {p : Addr} {ys zs : List V} {x : V} (h : EG H x) (k : H p = some (.lst zs)) : EG (upd H p (.lst ys)) x := h.mono (fun q xs e => by rw [upd_ne (ne_of e k (fun z => nomatch z))]; exact e) fun _ _ z => z.put k
theorem EG.dk {H H' : Hp} {p : Addr} {x : V} (h : EG H x) (k : Dk p H H') (d : Deck H p) : EG H' x := h.mono (fun _ _ => k.tup d) fun _ _ z => z.dk k d
theorem EG.pair {H : Hp} {a : Addr} {x y : V} {n m : String} (h : H a = some (.tup [x, y])) (hx : TyN H x n) (hy : TyN H y m) : EG H (.ref a) := ⟨_, .yes h hx hy⟩
theorem EG.odd {H : Hp} {a : Addr} {xs : List V} (h : H a = some (.tup xs)) (hl : xs.length ≠ 2) : EG H (.ref a) := ⟨_, .odd h hl⟩
theorem Ties.eg {H : Hp} {rs : List V} {es : List (Int × Int)} (h : Ties H rs es) : ∀ x ∈ rs, EG H x := fun x hx => by
  obtain ⟨i, hi⟩ := List.getElem?_of_mem hx
  obtain ⟨e, q, _, rfl, hq⟩ := h.get hi
  exact EG.pair hq (.int _) (.int _)
end FF
namespace FF
open PySem PySem.Spec PyProof.Rows L2
variable [LT]
/-! ### levels, and all pushers with their rings -/
open Classical in
noncomputable def lowB (ts : List (Int × Int)) (ws : List V) (e : Int × Int) (m : Int) (ls : List Int) : Bool := if joinB ts ws e = true then decide (∀ x, OnRing ts ws e x → hat ls x ≤ hat ls e.1 + 1) else decide (hat ls e.1 ≥ m - 1)
/-- what is pushed out of forest f is low enough -/
def LowF (ts : List (Int × Int)) (ws : List V) (tie : Nat) (m : Int) (ls : List Int) (f : Int) : Prop := ∀ i : Nat, i < ts.length → (i = tie ∨ ws[i]? ≠ some .non) → ws[i]? ≠ some (.int f) → lowB ts ws ((i : Int), f) m ls = true
def LevP (ts : List (Int × Int)) (k : Int) (ws : List V) (tie : Nat) (m : Int) (ls : List Int) : Prop := hat ls (tie : Int) = 0 ∧ ∀ f, 0 ≤ f → f < k → LowF ts ws tie m ls f
end FF
namespace FF
open PySem PySem.Spec PyProof.Rows L2
variable [LT]
/-! ### slices of tuples that are known to the object -/
section
variable {X : Cx} {K : PySem.W.Frag}
end
/-! ### layers of ways: how many earlier ties go the same way -/
end FF
namespace FF
open PySem PySem.Spec PyProof.Rows L2
variable [LT]
/-! ### each piece of a layer of ways has no more ties than points -/
end FF
namespace FF
open PySem PySem.Spec PyProof.Rows L2
variable [LT]
/-! ### {e for x in xs for y in ys}: a set of ints of two walks, no test -/
section
open PySem.Spec
abbrev two (elt t0 i0 t1 i1 : Expr) (scope : Scope) (pos : Pos) : Expr := .SetComp elt [⟨t0, i0, [], 0⟩, ⟨t1, i1, [], 0⟩] scope pos
end
section
open PySem.Spec
variable {prog : Program} {w : World} {A : Around} {R : Result → Shared → Prop} {s : Shared}
end
section
variable {X : Cx}
end
end FF
namespace FF
open PySem PySem.Spec PyProof.Rows L2
variable [LT]
/-! ### rows as the program and the laws tell of them -/
end FF
namespace FF
open PySem PySem.Spec PyProof.Rows L2
variable [LT]
/-! ### the search for a free tie: who pushes whom, and how far each is -/
section
variable {ts : List (Int × Int)} {ws : List V} {k : Int}
/-- levels tell how short a row may be -/
theorem LevP.least {tie : Nat} {m : Int} {ls : List Int} (hw : ws.length = ts.length) (h : LevP ts k ws tie m ls) : ∀ {es : List (Int × Int)} {e : Int × Int} {r : List (Int × Int)}, es = e :: r → PRow ts ws k es → (e.1 = tie ∨ ws[e.1.toNat]? ≠ some .non) → m ≤ es.length + hat ls e.1
  | [], _, _, h0, _, _ => nomatch h0
  | [e], _, _, h0, hp, hx => by
    cases h0
    obtain ⟨⟨a0, a1⟩, f0, f1⟩ := hp.bd e (List.mem_singleton.mpr rfl)
    have hj : joinB ts ws e = false := by
      have := hp.push
      show joinB ts ws e = false
      have this : (!joinB ts ws e) = true := this
      cases z : joinB ts ws e with
      | false => rfl
      | true => rw [z] at this; cases this
    obtain ⟨i, hi⟩ : ∃ i : Nat, e.1 = i := ⟨e.1.toNat, by omega⟩
    have hl := h.2 e.2 f0 f1 i (by omega) (hx.imp (fun z => by omega) fun z => by rw [hi, Int.toNat_natCast] at z; exact z) (fun z => by
      have := hp.lay e (List.mem_singleton.mpr rfl)
      unfold layB at this
      rw [hi, Int.toNat_natCast, decide_eq_true z] at this
      cases this)
    rw [show (((i : Nat) : Int), e.2) = e by rw [← hi]] at hl
    unfold lowB at hl
    rw [if_neg (by rw [hj]; decide)] at hl
    have := of_decide_eq_true hl
    show m ≤ 1 + hat ls e.1
    omega
  | e :: e' :: r, _, _, h0, hp, hx => by
    cases h0
    obtain ⟨⟨a0, a1⟩, f0, f1⟩ := hp.bd e List.mem_cons_self
    obtain ⟨hj, ho, _⟩ := pushB_parts.mp hp.push
    obtain ⟨i, hi⟩ : ∃ i : Nat, e.1 = i := ⟨e.1.toNat, by omega⟩
    have hl := h.2 e.2 f0 f1 i (by omega) (hx.imp (fun z => by omega) fun z => by rw [hi, Int.toNat_natCast] at z; exact z) (fun z => by
      have := hp.lay e List.mem_cons_self
      unfold layB at this
      rw [hi, Int.toNat_natCast, decide_eq_true z] at this
      cases this)
    rw [show (((i : Nat) : Int), e.2) = e by rw [← hi]] at hl
    unfold lowB at hl
    rw [if_pos hj] at hl
    have h1 := (@of_decide_eq_true _ (Classical.propDecidable _) hl) e'.1 ho
    have h2 := LevP.least hw h rfl hp.tail (.inr fun z => by
      have := (nums_iff.mp ho.1).2
      rw [this] at z
      cases z)
    rw [List.length_cons] at h2 ⊢
    have : ((r.length + 1 + 1 : Nat) : Int) = ((r.length + 1 : Nat) : Int) + 1 := by omega
    show m ≤ (((e' :: r).length + 1 : Nat) : Int) + hat ls e.1
    rw [List.length_cons]
    omega
theorem LevP.Least {tie : Nat} {ls : List Int} (hw : ws.length = ts.length) {e : Int × Int} {r : List (Int × Int)} (h : LevP ts k ws tie ((e :: r).length : Int) ls) (he : e.1 = tie) : FF.Least ts ws k (e :: r) := fun e' r' hp he' => by
  have := LevP.least hw h (es := e' :: r') rfl hp (.inl (he'.trans he))
  rw [he'.trans he, h.1, List.length_cons, List.length_cons] at this
  omega
/-- what pushes come to, closed -/
theorem closed_keys {e : Int} {R : List Int} (hL : LayK ts k ws) (he : 0 ≤ e ∧ e < (ts.length : Int)) (hnd : R.Nodup) (mem : ∀ t, t ∈ R ↔ Rch ts ws k e t) (ring : ∀ t, Rch ts ws k e t → ∀ f, 0 ≤ f → f < k → ws[t.toNat]? ≠ some (.int f) → jn ts (numsFrom f 0 ws) (tk ts t).1 (tk ts t).2 ∧ ∀ x, OnR ts (numsFrom f 0 ws) t x → Rch ts ws k e x) : Closed ts ws k R := by
  have hl := hL.len
  refine ⟨hnd, fun t ht => ((mem t).mp ht).rng hl he, fun t ht f f0 f1 hn => ?_, fun t ht s hs => ?_⟩
  · obtain ⟨a, b⟩ := ring t ((mem t).mp ht) f f0 f1 hn
    exact ⟨a, fun x hx => (mem x).mpr (b x hx)⟩
  · have go : ∀ t, Rch ts ws k e t → jn ts R (tk ts t).1 (tk ts e).1 := fun t ht => by
      induction ht with
      | base => rfl
      | @step s t f hs f0 f1 hn hj ho ih =>
        obtain ⟨_, hring⟩ := ring s hs f f0 f1 hn
        have hF := (fo_nums hl).mpr (hL.tree f)
        obtain ⟨ns, hRg⟩ := ring_exists hF.nd hj
        have h1 := hRg.mem_iff hF.rl hF.nd
        have hsub : ∀ x ∈ ns, x ∈ R := fun x hx => (mem x).mpr (hring x ((h1 x).mp hx))
        obtain ⟨l1, l2, u, v, el, w1, w2, w3⟩ := hRg.way.cut ((h1 t).mpr ho)
        have e1 : jn ts R (tk ts s).1 u := w1.joined fun x hx => hsub x (by rw [el]; exact List.mem_append_left _ hx)
        have htR : t ∈ R := (mem t).mpr (.step hs f0 f1 hn hj ho)
        have e2 : jn ts R (tk ts t).1 (tk ts t).2 := Leads.foldR (ts := ts) htR (.inl rfl)
        have e3 : jn ts R (tk ts t).1 u := by
          rcases w2 with w2 | w2
          · have : (tk ts t) = (u, v) := w2
            rw [this]
          · have : (tk ts t) = (v, u) := w2
            rw [this] at e2 ⊢
            exact e2
        exact e3.trans (e1.symm.trans ih)
    exact (go t ((mem t).mp ht)).trans (go s ((mem s).mp hs)).symm
/-- keys with who pushes them, in the order of coming; lv: how far they are; the first a of them looked through -/
structure Bfs (ts : List (Int × Int)) (ws : List V) (k : Int) (tie : Nat) (fl : List (Int × Option (Int × Int))) (lv : Nat → Nat) (a : Nat) : Prop where
  head : fl[0]? = some ((tie : Int), none)
  nd : (fl.map Prod.fst).Nodup
  rng : ∀ x ∈ fl.map Prod.fst, 0 ≤ x ∧ x < (ts.length : Int)
  par : ∀ (i : Nat) x s f, fl[i]? = some (x, some (s, f)) → ∃ j, j < i ∧ (∃ o, fl[j]? = some (s, o)) ∧ lv i = lv j + 1 ∧ (0 ≤ f ∧ f < k) ∧ ws[s.toNat]? ≠ some (.int f) ∧ joinB ts ws (s, f) = true ∧ OnRing ts ws (s, f) x
  root : ∀ (i : Nat) x, fl[i]? = some (x, none) → i = 0
  lv0 : lv 0 = 0
  mono : ∀ i j, i ≤ j → j < fl.length → lv i ≤ lv j
  near : ∀ i, i < fl.length → a < fl.length → lv i ≤ lv a + 1
  done : ∀ j, j < a → ∀ s o, fl[j]? = some (s, o) → ∀ f, 0 ≤ f → f < k → ws[s.toNat]? ≠ some (.int f) → joinB ts ws (s, f) = true ∧ ∀ x, OnRing ts ws (s, f) x → ∃ i o', fl[i]? = some (x, o') ∧ lv i ≤ lv j + 1
variable {tie : Nat} {fl : List (Int × Option (Int × Int))} {lv : Nat → Nat} {a : Nat}
theorem Bfs.start (ht : tie < ts.length) : Bfs ts ws k tie [((tie : Int), none)] (fun _ => 0) 0 :=
  ⟨rfl, by simp, fun x hx => by rw [List.mem_singleton.mp hx]; omega, fun i x s f h => by
    cases i with
    | zero => cases h
    | succ i => simp at h, fun i x h => by
    cases i with
    | zero => rfl
    | succ i => simp at h, rfl, fun _ _ _ _ => Nat.le_refl _, fun _ _ _ => Nat.zero_le _, fun j hj => by omega⟩
theorem Bfs.add (h : Bfs ts ws k tie fl lv a) (hw : ws.length = ts.length) {s x f : Int} {o : Option (Int × Int)} (ha : fl[a]? = some (s, o)) (hx : x ∉ fl.map Prod.fst) (f0 : 0 ≤ f) (f1 : f < k) (hn : ws[s.toNat]? ≠ some (.int f)) (hj : joinB ts ws (s, f) = true) (ho : OnRing ts ws (s, f) x) : Bfs ts ws k tie (fl ++ [(x, some (s, f))]) (fun i => if i = fl.length then lv a + 1 else lv i) a := by
  have al : a < fl.length := (List.getElem?_eq_some_iff.mp ha).1
  have old : ∀ {i : Nat} {p}, fl[i]? = some p → (fl ++ [(x, some (s, f))])[i]? = some p ∧ i ≠ fl.length := fun {i p} e => by
    have := (List.getElem?_eq_some_iff.mp e).1
    exact ⟨by rw [List.getElem?_append_left this]; exact e, by omega⟩
  have cases_ : ∀ {i : Nat} {p}, (fl ++ [(x, some (s, f))])[i]? = some p → fl[i]? = some p ∨ (i = fl.length ∧ p = (x, some (s, f))) := fun {i p} e => by
    by_cases c : i < fl.length
    · rw [List.getElem?_append_left c] at e
      exact .inl e
    · have := (List.getElem?_eq_some_iff.mp e).1
      rw [List.length_append] at this
      have ei : i = fl.length := by
        have : i < fl.length + 1 := this
        omega
      rw [ei, List.getElem?_append_right (Nat.le_refl _), Nat.sub_self] at e
      exact .inr ⟨ei, (Option.some.inj e).symm⟩
  refine ⟨(old h.head).1, ?_, fun y hy => ?_, fun i y s' f' e => ?_, fun i y e => ?_, ?_, fun i j hij hj' => ?_, fun i hi _ => ?_, fun j hj' s' o' e f' g0 g1 hn' => ?_⟩
  · rw [List.map_append, List.nodup_append]
    exact ⟨h.nd, by simp, fun y hy z hz => by
      have e9 : z = x := List.mem_singleton.mp hz
      rw [e9]
      exact fun q => hx (by rw [← q]; exact hy)⟩
  · rw [List.map_append] at hy
    rcases List.mem_append.mp hy with hy | hy
    · exact h.rng y hy
    · have e9 : y = x := List.mem_singleton.mp hy
      rw [e9]
      have := nums_iff.mp ho.1
      refine ⟨this.1, ?_⟩
      have := (List.getElem?_eq_some_iff.mp this.2).1
      omega
  · rcases cases_ e with e | ⟨ei, e2⟩
    · obtain ⟨j, hj1, ⟨o', e'⟩, hl, r⟩ := h.par i y s' f' e
      refine ⟨j, hj1, ⟨o', (old e').1⟩, ?_, r⟩
      rw [if_neg (old e).2, if_neg (old e').2]
      exact hl
    · cases e2
      rw [ei]
      refine ⟨a, al, ⟨o, (old ha).1⟩, ?_, ⟨f0, f1⟩, hn, hj, ho⟩
      rw [if_pos rfl, if_neg (by omega)]
  · rcases cases_ e with e | ⟨_, e2⟩
    · exact h.root i y e
    · cases e2
  · show (if 0 = fl.length then _ else _) = 0
    rw [if_neg (by omega)]
    exact h.lv0
  · rw [List.length_append] at hj'
    have hj' : j < fl.length + 1 := hj'
    show (if i = fl.length then _ else _) ≤ (if j = fl.length then _ else _)
    by_cases c2 : j = fl.length
    · rw [if_pos c2]
      by_cases c1 : i = fl.length
      · rw [if_pos c1]
        exact Nat.le_refl _
      · rw [if_neg c1]
        exact h.near i (by omega) al
    · rw [if_neg c2, if_neg (by omega)]
      exact h.mono i j hij (by omega)
  · rw [List.length_append] at hi
    have hi : i < fl.length + 1 := hi
    show (if i = fl.length then _ else _) ≤ (if a = fl.length then _ else _) + 1
    rw [if_neg (show ¬ a = fl.length by omega)]
    by_cases c1 : i = fl.length
    · rw [if_pos c1]
      exact Nat.le_refl _
    · rw [if_neg c1]
      exact h.near i (by omega) al
  · rcases cases_ e with e | ⟨rfl, e⟩
    · obtain ⟨b1, b2⟩ := h.done j hj' s' o' e f' g0 g1 hn'
      refine ⟨b1, fun y hy => ?_⟩
      obtain ⟨i, o'', e', hl⟩ := b2 y hy
      refine ⟨i, o'', (old e').1, ?_⟩
      rw [if_neg (old e').2, if_neg (old e).2]
      exact hl
    · omega
theorem Bfs.next (h : Bfs ts ws k tie fl lv a) {s : Int} {o : Option (Int × Int)} (ha : fl[a]? = some (s, o)) (hd : ∀ f, 0 ≤ f → f < k → ws[s.toNat]? ≠ some (.int f) → joinB ts ws (s, f) = true ∧ ∀ x, OnRing ts ws (s, f) x → x ∈ fl.map Prod.fst) : Bfs ts ws k tie fl lv (a + 1) := by
  have al : a < fl.length := (List.getElem?_eq_some_iff.mp ha).1
  refine ⟨h.head, h.nd, h.rng, h.par, h.root, h.lv0, h.mono, fun i hi ha' => ?_, fun j hj s' o' e f f0 f1 hn => ?_⟩
  · have h1 := h.near i hi al
    have h2 := h.mono a (a + 1) (by omega) ha'
    omega
  · by_cases c : j < a
    · exact h.done j c s' o' e f f0 f1 hn
    · have ej : j = a := by omega
      subst ej
      rw [ha] at e
      cases e
      obtain ⟨b1, b2⟩ := hd f f0 f1 hn
      refine ⟨b1, fun x hx => ?_⟩
      obtain ⟨p, hp, rfl⟩ := List.mem_map.mp (b2 x hx)
      obtain ⟨i, hi⟩ := List.getElem?_of_mem hp
      exact ⟨i, p.2, hi, h.near i (List.getElem?_eq_some_iff.mp hi).1 al⟩
/-- one push more ahead of a row -/
theorem Bfs.step (h : Bfs ts ws k tie fl lv a) {i : Nat} {x s f g : Int} {r : List (Int × Int)} (e : fl[i]? = some (x, some (s, f))) (hp : PRow ts ws k ((x, g) :: r)) : PRow ts ws k ((s, f) :: (x, g) :: r) ∧ ∃ j o, j < i ∧ fl[j]? = some (s, o) ∧ lv i = lv j + 1 := by
  obtain ⟨j, hj, ⟨o', e'⟩, hlv, hf, hn, hjn, ho⟩ := h.par i x s f e
  exact ⟨hp.cons ⟨h.rng s (List.mem_map.mpr ⟨_, List.mem_of_getElem? e', rfl⟩), hf⟩ (layB_ne hn) hjn ho, j, o', hj, e', hlv⟩
theorem Bfs.key (h : Bfs ts ws k tie fl lv a) {i : Nat} {p : Int × Option (Int × Int)} (e : fl[i]? = some p) : p.1 ∈ fl.map Prod.fst := List.mem_map.mpr ⟨p, List.mem_of_getElem? e, rfl⟩
theorem Bfs.one (h : Bfs ts ws k tie fl lv a) {i j : Nat} {x : Int} {o o' : Option (Int × Int)} (e : fl[i]? = some (x, o)) (e' : fl[j]? = some (x, o')) : i = j := by
  have hi : (fl.map Prod.fst)[i]? = some x := by rw [List.getElem?_map, e]; rfl
  have hj : (fl.map Prod.fst)[j]? = some x := by rw [List.getElem?_map, e']; rfl
  obtain ⟨li, ei⟩ := List.getElem?_eq_some_iff.mp hi
  obtain ⟨lj, ej⟩ := List.getElem?_eq_some_iff.mp hj
  exact (List.getElem_inj h.nd).mp (ei.trans ej.symm)
theorem Bfs.levels (h : Bfs ts ws k tie fl lv a) (al : a < fl.length) {ls : List Int} (h1 : ∀ i x o, fl[i]? = some (x, o) → hat ls x = lv i) (h2 : ∀ x, 0 ≤ x → x < (ts.length : Int) → x ∉ fl.map Prod.fst → hat ls x = (lv a : Int) + 1) (hw : ws.length = ts.length) : LevP ts k ws tie ((lv a : Int) + 1) ls := by
  refine ⟨(h1 0 _ _ h.head).trans (by rw [h.lv0]; rfl), fun f f0 f1 s hs hp hn => ?_⟩
  have top : ∀ x, 0 ≤ x → x < (ts.length : Int) → hat ls x ≤ (lv a : Int) + 1 := fun x x0 x1 => by
    by_cases c : x ∈ fl.map Prod.fst
    · obtain ⟨p, hp, rfl⟩ := List.mem_map.mp c
      obtain ⟨i, hi⟩ := List.getElem?_of_mem hp
      rw [h1 i p.1 p.2 hi]
      have := h.near i (List.getElem?_eq_some_iff.mp hi).1 al
      omega
    · rw [h2 x x0 x1 c]
      exact Int.le_refl _
  have ringr : ∀ x, OnRing ts ws ((s : Int), f) x → 0 ≤ x ∧ x < (ts.length : Int) := fun x hx => by
    obtain ⟨x0, hx'⟩ := nums_iff.mp hx.1
    have := (List.getElem?_eq_some_iff.mp hx').1
    exact ⟨x0, by omega⟩
  unfold lowB
  by_cases cj : joinB ts ws ((s : Int), f) = true
  · rw [if_pos cj]
    refine @decide_eq_true _ (Classical.propDecidable _) fun x hx => ?_
    obtain ⟨x0, x1⟩ := ringr x hx
    have ht := top x x0 x1
    by_cases c : (s : Int) ∈ fl.map Prod.fst
    · obtain ⟨p, hp', ep⟩ := List.mem_map.mp c
      obtain ⟨j, hj⟩ := List.getElem?_of_mem hp'
      have ej := h1 j p.1 p.2 hj
      rw [ep] at ej
      show hat ls x ≤ hat ls (s : Int) + 1
      by_cases cja : j < a
      · obtain ⟨_, b2⟩ := h.done j cja p.1 p.2 hj f f0 f1 (by rw [ep, Int.toNat_natCast]; exact hn)
        rw [ep] at b2
        obtain ⟨i, o', hi, hl⟩ := b2 x hx
        rw [h1 i x o' hi, ej]
        omega
      · have := h.mono a j (by omega) (List.getElem?_eq_some_iff.mp hj).1
        omega
    · have := h2 (s : Int) (by omega) (by omega) c
      show hat ls x ≤ hat ls (s : Int) + 1
      omega
  · have cj : joinB ts ws ((s : Int), f) = false := by simpa using cj
    rw [if_neg (by rw [cj]; decide)]
    refine decide_eq_true ?_
    show hat ls (s : Int) ≥ (lv a : Int) + 1 - 1
    by_cases c : (s : Int) ∈ fl.map Prod.fst
    · obtain ⟨p, hp', ep⟩ := List.mem_map.mp c
      obtain ⟨j, hj⟩ := List.getElem?_of_mem hp'
      have ej := h1 j p.1 p.2 hj
      rw [ep] at ej
      by_cases cja : j < a
      · obtain ⟨b1, _⟩ := h.done j cja p.1 p.2 hj f f0 f1 (by rw [ep, Int.toNat_natCast]; exact hn)
        rw [ep, cj] at b1
        cases b1
      · have := h.mono a j (by omega) (List.getElem?_eq_some_iff.mp hj).1
        omega
    · have := h2 (s : Int) (by omega) (by omega) c
      omega
theorem Bfs.rch (h : Bfs ts ws k tie fl lv a) (hw : ws.length = ts.length) : ∀ (n i : Nat), i ≤ n → ∀ x o, fl[i]? = some (x, o) → Rch ts ws k (tie : Int) x
  | n, i, _, x, none, e => by
    have ei := h.root i x e
    subst ei
    rw [h.head] at e
    cases e
    exact .base
  | 0, i, hi, x, some (s, f), e => by
    obtain ⟨j, hj, _⟩ := h.par i x s f e
    omega
  | n + 1, i, hi, x, some (s, f), e => by
    obtain ⟨j, hj, ⟨o', e'⟩, _, ⟨f0, f1⟩, hn, hjn, ho⟩ := h.par i x s f e
    exact .step (h.rch hw n j (by omega) s o' e') f0 f1 hn ((jn_join (e := (s, f)) hw).mp hjn) ho
theorem Bfs.mem_rch (h : Bfs ts ws k tie fl lv a) (ha : fl.length ≤ a) (hw : ws.length = ts.length) : ∀ t, t ∈ fl.map Prod.fst ↔ Rch ts ws k (tie : Int) t := fun t => by
  constructor
  · intro z
    obtain ⟨p, hp, rfl⟩ := List.mem_map.mp z
    obtain ⟨i, hi⟩ := List.getElem?_of_mem hp
    exact h.rch hw i i (Nat.le_refl _) p.1 p.2 hi
  · intro z
    induction z with
    | base => exact h.key h.head
    | @step s t f hs f0 f1 hn hj ho ih =>
      obtain ⟨p, hp, rfl⟩ := List.mem_map.mp ih
      obtain ⟨j, hj'⟩ := List.getElem?_of_mem hp
      have jl := (List.getElem?_eq_some_iff.mp hj').1
      obtain ⟨_, b2⟩ := h.done j (by omega) p.1 p.2 hj' f f0 f1 hn
      obtain ⟨i, o', hi, _⟩ := b2 t ho
      exact h.key hi
theorem Bfs.closed (h : Bfs ts ws k tie fl lv a) (ha : fl.length ≤ a) (hL : LayK ts k ws) (ht : tie < ts.length) : Closed ts ws k (fl.map Prod.fst) := by
  have hw := hL.len
  have mem := h.mem_rch ha hw
  refine closed_keys hL ⟨by omega, by omega⟩ h.nd mem fun t ht' f f0 f1 hn => ?_
  obtain ⟨p, hp, rfl⟩ := List.mem_map.mp ((mem t).mpr ht')
  obtain ⟨j, hj'⟩ := List.getElem?_of_mem hp
  have jl := (List.getElem?_eq_some_iff.mp hj').1
  obtain ⟨b1, b2⟩ := h.done j (by omega) p.1 p.2 hj' f f0 f1 hn
  refine ⟨(jn_join (e := (p.1, f)) hw).mp b1, fun x hx => ?_⟩
  obtain ⟨i, o', hi, _⟩ := b2 x hx
  exact h.rch hw i i (Nat.le_refl _) x o' hi
/-- a row as long as the levels tell lays the tie -/
theorem PRow.lays {ls : List Int} {e : Int × Int} {r : List (Int × Int)} (hL : LayK ts k ws) (hp : PRow ts ws k (e :: r)) (he : e.1 = tie) (hl : LevP ts k ws tie ((e :: r).length : Int) ls) (h0 : ws[tie]? = some .non) : LayK ts k (pushL ws (e :: r)) ∧ ((e :: r).map Prod.fst).Nodup := by
  obtain ⟨hc, nd⟩ := Least.nocut hp (hl.Least hL.len he)
  refine ⟨hL.push nd hp.bd hp.lay hp.push (by rw [he, Int.toNat_natCast]; exact h0) hc, nd⟩
end
/-- from what is closed no row comes -/
theorem Closed.no_row {ts : List (Int × Int)} {ws : List V} {k : Int} {R : List Int} (h : Closed ts ws k R) (hw : ws.length = ts.length) : ∀ {es : List (Int × Int)} {e : Int × Int} {r : List (Int × Int)}, es = e :: r → PRow ts ws k es → e.1 ∈ R → False
  | [], _, _, h0, _, _ => nomatch h0
  | [e], _, _, h0, hp, hR => by
    cases h0
    obtain ⟨_, f0, f1⟩ := hp.bd e (List.mem_singleton.mpr rfl)
    have hl := hp.lay e (List.mem_singleton.mpr rfl)
    obtain ⟨hj, _⟩ := h.ring e.1 hR e.2 f0 f1 (of_decide_eq_false hl)
    have := push_last hp.push (e := e) rfl
    rw [(jn_join hw).mpr hj] at this
    cases this
  | e :: e' :: r, _, _, h0, hp, hR => by
    cases h0
    obtain ⟨_, f0, f1⟩ := hp.bd e List.mem_cons_self
    have hl := hp.lay e List.mem_cons_self
    obtain ⟨_, hr⟩ := h.ring e.1 hR e.2 f0 f1 (of_decide_eq_false hl)
    exact h.no_row hw rfl hp.tail (hr e'.1 (pushB_parts.mp hp.push).2.1)
section
variable {ts : List (Int × Int)} {ws : List V} {k : Int} {tie : Nat} {H H' : Hp} {fl : List (Int × Addr)} {bf : List (Int × Option (Int × Int))} {lv : Nat → Nat} {a : Nat}
end
end FF
namespace FF
open PySem PySem.Spec PyProof.Rows L2
variable [LT]
/-! ### dicts from ints to any values -/
theorem Ties.reverse {H : Hp} {rs : List V} {ts : List (Int × Int)} (h : Ties H rs ts) : Ties H rs.reverse ts.reverse := by
  unfold Ties at h
  induction h with
  | nil => exact .nil
  | cons a _ ih =>
    rw [List.reverse_cons, List.reverse_cons]
    exact Ties.append ih (.cons a .nil)
end FF
namespace FF
open PySem PySem.Spec PyProof.Rows L2
variable [LT]
/-! ### the heap while a free tie is sought -/
section
variable {H : Hp} {n : Int} {ts : List (Int × Int)} {ws : List V} {k : Int} {tie : Nat} {d nb hg wt : Addr} {bl : List (Int × Addr)} {G G' : Hp} {pl pl' : List (Int × V)} {fl fl' : List (Int × Option (Int × Int))} {lv lv' : Nat → Nat} {a a' : Nat} {gl gl' : List (Int × Addr)}
end
end FF
namespace FF
open PySem PySem.Spec PyProof.Rows L2
variable [LT]
/-! ### l.count(k) of ints and Nones -/
end FF
namespace FF
open PySem PySem.Spec PyProof.Rows L2
variable [LT]
/-! ### a ring in a forest is one sequence -/
theorem Way.split {ts : List (Int × Int)} : ∀ {p : List Int} {x z m : Int} {q : List Int}, Way ts x (p ++ m :: q) z → ∃ u v, Way ts x p u ∧ Leads ts m u v ∧ Way ts v q z
  | [], x, z, m, q, h => by
    obtain ⟨y, h1, h2⟩ := Way.inv h
    exact ⟨x, y, .nil x, h1, h2⟩
  | c :: p, x, z, m, q, h => by
    obtain ⟨y, h1, h2⟩ := Way.inv (show Way ts x (c :: (p ++ m :: q)) z from h)
    obtain ⟨u, v, a, b, d⟩ := Way.split h2
    exact ⟨u, v, .cons h1 a, b, d⟩
/-- m comes from a without m' -/
def Ere (ts : List (Int × Int)) (ms : List Int) (a m m' : Int) : Prop := foldR (fun x => x) (pick ts (but m' ms)) a = foldR (fun x => x) (pick ts (but m' ms)) (ts.getD m.toNat (0, 0)).1
theorem leads_end {ts : List (Int × Int)} {m u v : Int} (h : Leads ts m u v) : (ts.getD m.toNat (0, 0)).1 = u ∨ (ts.getD m.toNat (0, 0)).1 = v := by
  rcases h with h | h
  · exact .inl (by rw [h])
  · exact .inr (by rw [h])
section
variable {ts : List (Int × Int)} {ms : List Int} {a b : Int} {l : List Int}
theorem IsRing.ere (h : IsRing ts ms a b l) {p q : List Int} {m m' : Int} (e : l = p ++ m :: q) (hm : m' ∈ q) : Ere ts ms a m m' := by
  have hnd := h.nd
  subst e
  obtain ⟨u, v, w1, w2, _⟩ := Way.split h.way
  rw [List.nodup_append] at hnd
  obtain ⟨n1, n2, n3⟩ := hnd
  have n4 := (List.nodup_cons.mp n2).1
  have inb : ∀ x ∈ p, x ∈ but m' ms := fun x hx => mem_but.mpr ⟨h.mem x (List.mem_append_left _ hx), n3 x hx m' (List.mem_cons_of_mem _ hm)⟩
  have mb : m ∈ but m' ms := mem_but.mpr ⟨h.mem m (List.mem_append_right _ List.mem_cons_self), fun z => n4 (by rw [z]; exact hm)⟩
  have e1 := w1.joined inb
  have e2 := w2.foldR mb
  unfold Ere
  rcases leads_end w2 with z | z <;> rw [z]
  · exact e1
  · exact e1.trans e2
theorem split_at {l : List Int} {i j : Nat} (hi : i < l.length) (hj : j < l.length) (hij : i < j) : l = l.take i ++ l[i] :: l.drop (i + 1) ∧ l[j] ∈ l.drop (i + 1) := by
  refine ⟨?_, ?_⟩
  · rw [← List.drop_eq_getElem_cons hi, List.take_append_drop]
  · rw [List.mem_iff_getElem]
    refine ⟨j - (i + 1), by rw [List.length_drop]; omega, ?_⟩
    rw [List.getElem_drop]
    congr 1
    omega
theorem IsRing.up (h : IsRing ts ms a b l) : l.Pairwise (Ere ts ms a) := by
  rw [List.pairwise_iff_getElem]
  intro i j hi hj hij
  obtain ⟨e, hm⟩ := split_at hi hj hij
  exact h.ere e hm
end
/-! ### the search is one: which ties come, in which order -/
abbrev FlT := List (Int × Option (Int × Int))
open Classical in
noncomputable def ringL (ts : List (Int × Int)) (ws : List V) (s f : Int) : List Int := if h : ∃ l, IsRing ts (numsFrom f 0 ws) (tk ts s).1 (tk ts s).2 l then h.choose else []
noncomputable def grow (ts : List (Int × Int)) (ws : List V) (fl : FlT) (s f : Int) : FlT := fl ++ ((ringL ts ws s f).filter fun x => !decide (x ∈ fl.map Prod.fst)).map fun x => (x, some (s, f))
noncomputable def inF (ts : List (Int × Int)) (ws : List V) (s : Int) (fl : FlT) : Nat → FlT
  | 0 => fl
  | j + 1 => if ws[s.toNat]? = some (.int (j : Int)) then inF ts ws s fl j else grow ts ws (inF ts ws s fl j) s j
noncomputable def outF (ts : List (Int × Int)) (ws : List V) (k : Int) (tie : Nat) : Nat → FlT
  | 0 => [((tie : Int), none)]
  | a + 1 => match (outF ts ws k tie a)[a]? with
    | some p => inF ts ws p.1 (outF ts ws k tie a) k.toNat
    | none => outF ts ws k tie a
/-- the a-th is free in f -/
def Stp_ (ts : List (Int × Int)) (ws : List V) (k : Int) (tie : Nat) (a : Nat) (f : Int) : Prop := ∃ s o, (outF ts ws k tie a)[a]? = some (s, o) ∧ (0 ≤ f ∧ f < k) ∧ ws[s.toNat]? ≠ some (.int f) ∧ joinB ts ws (s, f) = false
/-- what the search has come to: the first that is free -/
structure Fst (ts : List (Int × Int)) (ws : List V) (k : Int) (tie : Nat) (a : Nat) (x f : Int) (fl : FlT) : Prop where
  fl_ : fl = inF ts ws x (outF ts ws k tie a) f.toNat
  key : ∃ o, (outF ts ws k tie a)[a]? = some (x, o)
  stop : Stp_ ts ws k tie a f
  ahead : ∀ a' f', (a' < a ∨ (a' = a ∧ f' < f)) → ¬ Stp_ ts ws k tie a' f'
theorem Fst.same {ts : List (Int × Int)} {ws : List V} {k : Int} {tie a a' : Nat} {x x' f f' : Int} {fl fl' : FlT} (h : Fst ts ws k tie a x f fl) (h' : Fst ts ws k tie a' x' f' fl') : a = a' ∧ x = x' ∧ f = f' ∧ fl = fl' := by
  have ea : a = a' := by
    rcases Nat.lt_trichotomy a a' with c | c | c
    · exact (h'.ahead a f (.inl c) h.stop).elim
    · exact c
    · exact (h.ahead a' f' (.inl c) h'.stop).elim
  subst ea
  have ef : f = f' := by
    by_cases c : f = f'
    · exact c
    · by_cases c2 : f < f'
      · exact (h'.ahead a f (.inr ⟨rfl, c2⟩) h.stop).elim
      · exact (h.ahead a f' (.inr ⟨rfl, by omega⟩) h'.stop).elim
  subst ef
  obtain ⟨o, e⟩ := h.key
  obtain ⟨o', e'⟩ := h'.key
  rw [e] at e'
  have ex : x = x' := by cases e'; rfl
  subst ex
  exact ⟨rfl, rfl, rfl, h.fl_.trans h'.fl_.symm⟩
/-- the pushes that lead to x -/
inductive Pth (fl : FlT) : Int → List (Int × Int) → Prop where
  | root {x : Int} (h : (x, none) ∈ fl) : Pth fl x []
  | step {x s f : Int} {es : List (Int × Int)} (h : (x, some (s, f)) ∈ fl) (p : Pth fl s es) : Pth fl x (es ++ [(s, f)])
theorem fl_one {fl : FlT} (nd : (fl.map Prod.fst).Nodup) {x : Int} {o o' : Option (Int × Int)} (h : (x, o) ∈ fl) (h' : (x, o') ∈ fl) : o = o' := by
  obtain ⟨i, hi⟩ := List.getElem?_of_mem h
  obtain ⟨j, hj⟩ := List.getElem?_of_mem h'
  have ei : (fl.map Prod.fst)[i]? = some x := by rw [List.getElem?_map, hi]; rfl
  have ej : (fl.map Prod.fst)[j]? = some x := by rw [List.getElem?_map, hj]; rfl
  obtain ⟨li, e1⟩ := List.getElem?_eq_some_iff.mp ei
  obtain ⟨lj, e2⟩ := List.getElem?_eq_some_iff.mp ej
  have := (List.getElem_inj nd).mp (e1.trans e2.symm)
  subst this
  rw [hi] at hj
  cases hj
  rfl
theorem Pth.same {fl : FlT} (nd : (fl.map Prod.fst).Nodup) {x : Int} {es es' : List (Int × Int)} (h : Pth fl x es) (h' : Pth fl x es') : es = es' := by
  induction h generalizing es' with
  | root h =>
    cases h' with
    | root _ => rfl
    | step h2 _ => cases fl_one nd h h2
  | step h p ih =>
    cases h' with
    | root h2 => cases fl_one nd h h2
    | step h2 p2 =>
      cases fl_one nd h h2
      rw [ih p2]
theorem Bfs.lv_same {ts : List (Int × Int)} {ws : List V} {k : Int} {tie : Nat} {fl : FlT} {lv lv' : Nat → Nat} {a a' : Nat} (h : Bfs ts ws k tie fl lv a) (h' : Bfs ts ws k tie fl lv' a') : ∀ i, i < fl.length → lv i = lv' i := by
  intro i
  induction i using Nat.strongRecOn with
  | _ i ih =>
    intro hi
    obtain ⟨x, o, hx⟩ : ∃ x o, fl[i]? = some (x, o) := ⟨fl[i].1, fl[i].2, List.getElem?_eq_getElem hi⟩
    cases o with
    | none => rw [h.root i x hx, h.lv0, h'.lv0]
    | some sf =>
      obtain ⟨j, hj, ⟨o1, e1⟩, l1, _⟩ := h.par i x sf.1 sf.2 hx
      obtain ⟨j', hj', ⟨o2, e2⟩, l2, _⟩ := h'.par i x sf.1 sf.2 hx
      have := h.one e1 e2
      subst this
      rw [l1, l2, ih j hj (by omega)]
end FF
namespace FF
open PySem PySem.Spec PyProof.Rows L2
variable [LT]
/-! ### what push_tie tells -/
def Laid_ (ts : List (Int × Int)) (k : Int) (ws : List V) (tie : Nat) (e : Int × Int) (es : List (Int × Int)) (ls : List Int) : Prop :=
  PRow ts ws k (e :: es) ∧ e.1 = (tie : Int) ∧ ls.length = ts.length ∧ (∀ y ∈ ls, 0 ≤ y ∧ y ≤ 121) ∧ LevP ts k ws tie ((e :: es).length : Int) ls ∧
  ∃ (fl : FlT) (lv : Nat → Nat) (a : Nat) (x g : Int) (mid : List (Int × Int)), Fst ts ws k tie a x g fl ∧ Bfs ts ws k tie fl lv a ∧ e :: es = mid ++ [(x, g)] ∧ Pth fl x mid ∧ (∀ (i : Nat) y o, fl[i]? = some (y, o) → hat ls y = lv i) ∧ ∀ y, 0 ≤ y → y < (ts.length : Int) → y ∉ fl.map Prod.fst → hat ls y = ((e :: es).length : Int)
def Full_ (ts : List (Int × Int)) (n k : Int) (ws : List V) (tie : Nat) (ls R : List Int) : Prop := Lot n ls ∧ EndsOf ts R ls ∧ Closed ts ws k R ∧ (tie : Int) ∈ R ∧ ∀ t, t ∈ R ↔ Rch ts ws k (tie : Int) t
def Told (ts : List (Int × Int)) (n k : Int) (ws : List V) (tie : Nat) (H : Hp) (x : Addr) : Prop :=
  (∃ (r c : Addr) (xs : List V) (e : Int × Int) (es : List (Int × Int)) (ls : List Int), H x = some (.tup [.str "laid", .ref r, .ref c]) ∧ H r = some (.tup xs) ∧ Ties H xs (e :: es) ∧ H c = some (.tup (ls.map V.int)) ∧ Laid_ ts k ws tie e es ls) ∨
  ∃ (c : Addr) (ls R : List Int), H x = some (.tup [.str "full", .ref c]) ∧ H c = some (.tup (ls.map V.int)) ∧ Full_ ts n k ws tie ls R
theorem Told.mono {ts : List (Int × Int)} {n k : Int} {ws : List V} {tie : Nat} {H H' : Hp} {x : Addr} (h : Told ts n k ws tie H x) (kk : ∀ q xs, H q = some (.tup xs) → H' q = some (.tup xs)) : Told ts n k ws tie H' x := by
  rcases h with ⟨r, c, xs, e, es, ls, h1, h2, h3, h4, h5⟩ | ⟨c, ls, R, h1, h2, h3⟩
  · exact .inl ⟨r, c, xs, e, es, ls, kk _ _ h1, kk _ _ h2, h3.mono kk, kk _ _ h4, h5⟩
  · exact .inr ⟨c, ls, R, kk _ _ h1, kk _ _ h2, h3⟩
theorem Laid_.same {ts : List (Int × Int)} {k : Int} {ws : List V} {tie : Nat} {e e' : Int × Int} {es es' : List (Int × Int)} {ls ls' : List Int} (h : Laid_ ts k ws tie e es ls) (h' : Laid_ ts k ws tie e' es' ls') : e :: es = e' :: es' ∧ ls = ls' := by
  obtain ⟨_, _, l1, _, _, fl, lv, a, x, g, mid, hF, hB, he, hp, hl, ho⟩ := h
  obtain ⟨_, _, l2, _, _, fl', lv', a', x', g', mid', hF', hB', he', hp', hl', ho'⟩ := h'
  obtain ⟨rfl, rfl, rfl, rfl⟩ := hF.same hF'
  have em := hp.same hB.nd hp'
  have ee : e :: es = e' :: es' := by rw [he, he', em]
  refine ⟨ee, ext_hat (l1.trans l2.symm) fun y y0 y1 => ?_⟩
  by_cases c : y ∈ fl.map Prod.fst
  · obtain ⟨p, hp, rfl⟩ := List.mem_map.mp c
    obtain ⟨i, hi⟩ := List.getElem?_of_mem hp
    rw [hl i p.1 p.2 hi, hl' i p.1 p.2 hi, hB.lv_same hB' i (List.getElem?_eq_some_iff.mp hi).1]
  · rw [ho y y0 (by omega) c, ho' y y0 (by omega) c, ee]
theorem sorted_one : ∀ {as bs : List Int}, as.Pairwise (· < ·) → bs.Pairwise (· < ·) → (∀ x, x ∈ as ↔ x ∈ bs) → as = bs := fun {as bs} ha hb h =>
  List.Perm.eq_of_pairwise (fun a b _ _ h1 h2 => by omega) ha hb ((List.perm_ext_iff_of_nodup (ha.imp fun z => by omega) (hb.imp fun z => by omega)).mpr h)
theorem Full_.same {ts : List (Int × Int)} {n k : Int} {ws : List V} {tie : Nat} {ls ls' R R' : List Int} (h : Full_ ts n k ws tie ls R) (h' : Full_ ts n k ws tie ls' R') : ls = ls' := by
  obtain ⟨h1, h2, _, _, h5⟩ := h
  obtain ⟨g1, g2, _, _, g5⟩ := h'
  refine sorted_one h1.up g1.up fun x => (h2.mem x).trans (Iff.trans ?_ (g2.mem x).symm)
  constructor
  · rintro ⟨t, ht, z⟩
    exact ⟨t, (g5 t).mpr ((h5 t).mp ht), z⟩
  · rintro ⟨t, ht, z⟩
    exact ⟨t, (h5 t).mpr ((g5 t).mp ht), z⟩
theorem Laid_.not_full {ts : List (Int × Int)} {n k : Int} {ws : List V} {tie : Nat} {e : Int × Int} {es : List (Int × Int)} {ls ls' R : List Int} (hw : ws.length = ts.length) (h : Laid_ ts k ws tie e es ls) (h' : Full_ ts n k ws tie ls' R) : False := h'.2.2.1.no_row hw rfl h.1 (by rw [h.2.1]; exact h'.2.2.2.1)
end FF
namespace FF
open PySem PySem.Spec PyProof.Rows L2
variable [LT]
/-! ### the data of what push_tie tells -/
def dE (es : List (Int × Int)) : PyData := .tuple (es.map fun e => .tuple [.int e.1, .int e.2])
theorem dE_sh (es : List (Int × Int)) : Sh 2 (dE es) := Sh.tup fun d hd => by
  obtain ⟨e, _, rfl⟩ := List.mem_map.mp hd
  refine (Sh.tup (k := 0) fun d hd => ?_)
  rcases List.mem_cons.mp hd with rfl | hd
  · exact Sh.int
  · rw [List.mem_singleton.mp hd]
    exact Sh.int
theorem Ties.dpA {K : PySem.W.Frag} {H : Hp} {xs : List V} {es : List (Int × Int)} (h : Ties H xs es) : DpAll K H xs (es.map fun e => .tuple [.int e.1, .int e.2]) := by
  unfold Ties at h
  induction h with
  | nil => exact .nil
  | cons a _ ih =>
    obtain ⟨q, rfl, hq⟩ := a
    exact .cons (.tup (sqT_of hq) (.cons (.int _) (.cons (.int _) .nil))) ih
theorem ints_sh (ls : List Int) : Sh 1 (.tuple (ls.map PyData.int)) := Sh.tup fun d hd => by
  obtain ⟨e, _, rfl⟩ := List.mem_map.mp hd
  exact Sh.int
theorem Sh.str {x : Str} (h : (PyData.str x).canLay0 = true := by decide +kernel) : Sh 0 (.str x) := ⟨h, Nat.le_refl _⟩
theorem Told.data {K : PySem.W.Frag} {ts : List (Int × Int)} {n k : Int} {ws : List V} {tie : Nat} {H : Hp} {x y : Addr} (hw : ws.length = ts.length) (h : Told ts n k ws tie H x) (h' : Told ts n k ws tie H y) : ∃ d, Dp K H (.ref x) d ∧ Dp K H (.ref y) d ∧ SeqAt.shaped d = true := by
  rcases h with ⟨r, c, xs, e, es, ls, h1, h2, h3, h4, h5⟩ | ⟨c, ls, R, h1, h2, h3⟩
  · rcases h' with ⟨r', c', xs', e', es', ls', g1, g2, g3, g4, g5⟩ | ⟨c', ls', R', g1, g2, g3⟩
    · obtain ⟨e1, e2⟩ := h5.same g5
      subst e2
      rw [← e1] at g3
      refine ⟨.tuple [.str "laid", dE (e :: es), .tuple (ls.map PyData.int)], .tup (sqT_of h1) (.cons (.str _) (.cons (.tup (sqT_of h2) h3.dpA) (.cons (.tup (sqT_of h4) (dp_ints ls)) .nil))), .tup (sqT_of g1) (.cons (.str _) (.cons (.tup (sqT_of g2) g3.dpA) (.cons (.tup (sqT_of g4) (dp_ints ls)) .nil))), (Sh.tup (k := 2) fun d hd => ?_).shaped⟩
      rcases List.mem_cons.mp hd with rfl | hd
      · exact Sh.up .str (Nat.zero_le _)
      rcases List.mem_cons.mp hd with rfl | hd
      · exact dE_sh _
      · rw [List.mem_singleton.mp hd]
        exact (ints_sh ls).up (by decide)
    · exact (h5.not_full hw g3).elim
  · rcases h' with ⟨r', c', xs', e', es', ls', g1, g2, g3, g4, g5⟩ | ⟨c', ls', R', g1, g2, g3⟩
    · exact (g5.not_full hw h3).elim
    · have e2 := h3.same g3
      subst e2
      refine ⟨.tuple [.str "full", .tuple (ls.map PyData.int)], .tup (sqT_of h1) (.cons (.str _) (.cons (.tup (sqT_of h2) (dp_ints ls)) .nil)), .tup (sqT_of g1) (.cons (.str _) (.cons (.tup (sqT_of g2) (dp_ints ls)) .nil)), (Sh.tup (k := 2) fun d hd => ?_).shaped⟩
      rcases List.mem_cons.mp hd with rfl | hd
      · exact Sh.up .str (Nat.zero_le _)
      · rw [List.mem_singleton.mp hd]
        exact (ints_sh ls).up (by decide)
end FF
namespace FF
open PySem PySem.Spec PyProof.Rows L2
variable [LT]
/-! ### strips: each tie brings a point that its forest has not touched -/
theorem layerOf_app {ts us : List (Int × Int)} {ws vs : List V} (h : ts.length = ws.length) (f : Int) : layerOf (ts ++ us) (ws ++ vs) f = layerOf ts ws f ++ layerOf us vs f := by
  unfold layerOf
  rw [List.zip_append h, List.filter_append, List.map_append]
theorem LayK.turn {ts : List (Int × Int)} {k : Int} {ws : List V} (h : LayK ts k ws) (r : Nat) : LayK (ts.drop r ++ ts.take r) k (ws.drop r ++ ws.take r) := by
  have hl := h.len
  refine ⟨by rw [List.length_append, List.length_append, List.length_drop, List.length_drop, List.length_take, List.length_take, hl], fun x hx => ?_, fun f => ?_⟩
  · rcases List.mem_append.mp hx with hx | hx
    · exact h.each x (List.mem_of_mem_drop hx)
    · exact h.each x (List.mem_of_mem_take hx)
  · have e : layerOf ts ws f = layerOf (ts.take r) (ws.take r) f ++ layerOf (ts.drop r) (ws.drop r) f := by
      rw [← layerOf_app (by rw [List.length_take, List.length_take, hl]), List.take_append_drop, List.take_append_drop]
    rw [layerOf_app (by rw [List.length_drop, List.length_drop, hl]), ringlessF_perm List.perm_append_comm, ← e]
    exact h.tree f
end FF
namespace FF
open PySem PySem.Spec PyProof.Rows L2
variable [LT]
/-! ### laying tie after tie -/
theorem row_laid {ts : List (Int × Int)} {ws : List V} {k : Int} : ∀ {es : List (Int × Int)} {e : Int × Int} {r : List (Int × Int)}, es = e :: r → PRow ts ws k es → ∀ x ∈ r, ws[x.1.toNat]? ≠ some .non
  | [], _, _, h0, _ => nomatch h0
  | [e], _, _, h0, _ => by
    cases h0
    exact fun _ z => nomatch z
  | e :: e' :: r, _, _, h0, hp => by
    cases h0
    intro x hx
    rcases List.mem_cons.mp hx with rfl | hx
    · have h := (nums_iff.mp (pushB_parts.mp hp.push).2.1.1).2
      rw [h]
      exact fun z => nomatch z
    · exact row_laid rfl hp.tail x hx
theorem pushL_out : ∀ (es : List (Int × Int)) {ws : List V} {i : Nat}, (∀ e ∈ es, e.1.toNat ≠ i) → (pushL ws es)[i]? = ws[i]?
  | [], _, _, _ => rfl
  | e :: es, ws, i, h => by
    show (pushL (ws.set e.1.toNat (.int e.2)) es)[i]? = _
    rw [pushL_out es fun x hx => h x (List.mem_cons_of_mem _ hx), List.getElem?_set_ne (h e List.mem_cons_self)]
theorem pushL_some : ∀ (es : List (Int × Int)) {ws : List V} {i : Nat}, ws[i]? ≠ some .non → (pushL ws es)[i]? ≠ some .non
  | [], _, _, h => h
  | e :: es, ws, i, h => by
    show (pushL (ws.set e.1.toNat (.int e.2)) es)[i]? ≠ _
    refine pushL_some es ?_
    by_cases c : e.1.toNat = i
    · subst c
      rw [List.getElem?_set_self']
      cases ws[e.1.toNat]? with
      | none => exact fun z => nomatch z
      | some _ => exact fun z => nomatch z
    · rw [List.getElem?_set_ne c]
      exact h
theorem pushL_mem : ∀ (es : List (Int × Int)) {ws : List V} {e : Int × Int}, e ∈ es → (pushL ws es)[e.1.toNat]? ≠ some .non
  | d :: es, ws, e, he => by
    show (pushL (ws.set d.1.toNat (.int d.2)) es)[e.1.toNat]? ≠ _
    rcases List.mem_cons.mp he with rfl | he
    · refine pushL_some es ?_
      rw [List.getElem?_set_self']
      cases ws[e.1.toNat]? with
      | none => exact fun z => nomatch z
      | some _ => exact fun z => nomatch z
    · exact pushL_mem es he
theorem Laid_.step {ts : List (Int × Int)} {k : Int} {ws : List V} {tie : Nat} {e : Int × Int} {es : List (Int × Int)} {ls : List Int} (hL : LayK ts k ws) (h0 : ws[tie]? = some .non) (h : Laid_ ts k ws tie e es ls) :
    LayK ts k (pushL ws (e :: es)) ∧ ∀ i : Nat, (pushL ws (e :: es))[i]? = some .non ↔ ws[i]? = some .non ∧ i ≠ tie := by
  obtain ⟨h1, h2, h3, h4, h5, _⟩ := h
  refine ⟨(h1.lays hL h2 h5 h0).1, fun i => ⟨fun z => ⟨?_, fun c => ?_⟩, fun ⟨z, c⟩ => ?_⟩⟩
  · by_cases c : ws[i]? = some .non
    · exact c
    · exact (pushL_some _ c z).elim
  · have := pushL_mem (e :: es) (ws := ws) (e := e) List.mem_cons_self
    rw [show e.1.toNat = i by omega] at this
    exact this z
  · rw [pushL_out, z]
    intro x hx
    rcases List.mem_cons.mp hx with rfl | hx
    · omega
    · intro q
      have := row_laid rfl h1 x hx
      rw [q] at this
      exact this z
end FF
namespace FF
open PySem PySem.Spec PyProof.Rows L2
variable [LT]
/-! ### sorted(set), any number of members -/
section
variable {P : Program} {w : World} {A : Around} {E : Value → Shared → Prop} {s : Shared}
theorem sorted_setB {a : Addr} {S : Int → Bool} {n : Nat} {Q : Value → Shared → Prop} (R : SetR w s.heap a S n) (hh : A.handled = none) (hn0 : n ≤ 1000)
    (hQ : ∀ s' p (c : Nat) (out : Array Value) (ns : List Int), (∀ b o, s.heap.get? b = some o → s'.heap.get? b = some o) → s'.gens = s.gens → s'.os = s.os → s.heap.objs.size ≤ p →
      s'.heap.get? p = some (seqObj "list" out c) → IntsAre out.toList ns → ns.Pairwise (· < ·) → (∀ k, k ∈ ns ↔ S k = true) → ns.length = n → Q (.ref p) s') :
    wpAny (model P w) A (call (.builtin "sorted") [.ref a]) Q E s := by
  obtain ⟨o, es, ep, t, ho, hx, hd, g, nd, hm, hb, hf, hn, hr, hl⟩ := R
  refine Calls.call_function_entry kind_sorted plain_sorted entry_sorted (args_sorted1 _) ?_
  unfold Builtin.«sorted»
  refine wpAny_bind (m := checkCount "sorted" 1 1 _) (wpAny_pure ?_)
  refine wpAny_bind (collect_set (A := A.in1) hh ⟨o, ho, hx.1, hd⟩ hf hb hr hl fun s1 vs kk hz gg oo pm => ?_)
  have vl : vs.length = n := by rw [pm.length_eq, List.length_map, Array.length_toList]; exact hn
  have hI : IntsAre vs (vs.map Builtin.Re.reRawOf) := ints_of vs fun v hv => by
    obtain ⟨e, he, q⟩ := List.mem_map.mp (pm.mem_iff.mp hv)
    obtain ⟨k, tk, e1, _⟩ := g e he
    exact ⟨k, tk, by rw [← q]; exact e1⟩
  have pk : (vs.map Builtin.Re.reRawOf).Perm (es.toList.map keyOf) := by
    have := pm.map Builtin.Re.reRawOf
    rwa [List.map_map] at this
  have big : vs.length ≤ sizeLine := by rw [vl, sizeLine_eq]; omega
  refine wpAny_bind (wpAny_newList ?_ big)
  have at1 : (s1.heap.push (seqObj "list" vs.toArray 0)).get? s1.heap.objs.size = some (seqObj "list" vs.toArray 0) := Heap.get?_push_size _ rfl
  refine wpAny_bind (wpAny_holding (wpAny_call_entry slot_list_sort ⟨_, at1, rfl⟩ entry_list_sort (SrtO.list_sort_ord SrtO.swo_int at1 big (fun h2 => SrtO.ints_sortable hI h2) fun out q1 q2 => ⟨_, rfl, ?_⟩) (args_list_sort _)))
  obtain ⟨k1, k2, k3⟩ := SrtO.ints_out hI q1 q2
  obtain ⟨c, hc⟩ := sortedHeap_at (vs := vs) (out := out.toArray) at1
  have pn : (out.map SrtO.iv).Perm (es.toList.map keyOf) := k2.trans pk
  refine wpAny_pure ⟨_, rfl, hQ _ s1.heap.objs.size c out.toArray _ (fun b u e => ?_) gg oo hz hc k1 (lt_of_le_nodup _ k3 (pn.nodup_iff.mpr nd)) (fun k => by rw [pn.mem_iff, ← hm k]) ?_⟩
  · have q := kk b u e
    have hlt := Heap.lt_size q
    show (sortedHeap (s1.heap.push (seqObj "list" vs.toArray 0)) s1.heap.objs.size vs out.toArray).get? b = some u
    rw [sortedHeap_old (Nat.ne_of_lt hlt) (by rw [size_push']; exact Nat.lt_succ_of_lt hlt)]
    exact Heap.get?_push_of_some _ q
  · rw [pn.length_eq, List.length_map, Array.length_toList]; exact hn
end
def rSortedSetB (w : World) : List V → Hp → VK → Prop := fun vs H Q => ∃ (a : Addr) (S : Int → Bool) (n : Nat), vs = [V.ref a] ∧ H a = some (SetO w a S n) ∧ n ≤ 1000 ∧
  ∀ (ns : List Int) (p : Addr), ns.Pairwise (· < ·) → (∀ k : Int, k ∈ ns ↔ S k = true) → ns.length = n → H p = none → Q (.ref p) (upd H p (.lst (ns.map V.int)))
section
variable {X : Cx}
theorem cr_sortedSetB (hc : X.calm = true) : CallR X (.builtin "sorted") (rSortedSetB X.w) := by
  intro pins s σ H vs us Q I r h
  obtain ⟨a, S, n, rfl, ha, hn0, q⟩ := h
  rw [Vals.ref1 r]
  refine sorted_setB (setO_get I ha) (I.ok.hd hc) hn0 fun s' p c out ns k g o hp hg hi hs hm hl => ?_
  have hlen : (ns.map V.int).length ≤ sizeLine := by rw [List.length_map, hl, sizeLine_eq]; omega
  have hn : H p = none := I.hok.fresh hp
  have J : Inv X pins σ (upd H p (.lst (ns.map V.int))) { s with heap := s'.heap, gens := s'.gens, drawn := s'.drawn, toks := s'.toks } :=
    I.call (ch := []) (Un.laid k hp hn) (I.hok.laid k hp ⟨hlen, out.toList, c, vals_of_ints hi, hg⟩) (by rw [g]; exact I.bare) (fun _ z => nomatch z)
  have e : { s with heap := s'.heap, gens := s'.gens, drawn := s'.drawn, toks := s'.toks } = s' := by
    cases s'
    cases s
    cases o
    rfl
  rw [← e]
  exact ⟨.ref p, _, J, rfl, q ns p hs hm hl hn⟩
end
end FF
namespace FF
open PySem PySem.Spec PyProof.Rows L2
variable [LT]
/-! ### every second one of a list -/
section
variable {X : Cx}
end
end FF
namespace FF
open PySem PySem.Spec PyProof.Rows L2
variable [LT]
/-! ### numbers in the order of their first places -/
/-! ### the parting around lots -/
/-! ### tight lots -/
structure TightL (ts : List (Int × Int)) (n k : Int) (ws : List V) (ls : List Int) : Prop where
  lot : Lot n ls
  tight : ∀ f, 0 ≤ f → f < k → inside ls (layerOf ts ws f) + 1 = ls.length
theorem nub_all {l : List Int} (h : (nub l).length = 1) {a b : Int} (ha : a ∈ l) (hb : b ∈ l) : a = b := by
  have ha := (mem_nub l a).mpr ha
  have hb := (mem_nub l b).mpr hb
  match nub l, h, ha, hb with
  | [c], _, ha, hb => rw [List.mem_singleton.mp ha, List.mem_singleton.mp hb]
theorem tight_joined {n : Int} {ls : List Int} {L : List (Int × Int)} (h : ringlessF (fun x => x) L = true) (hl : Lot n ls) (ht : inside ls L + 1 = ls.length) {x y : Int} (hx : x ∈ ls) (hy : y ∈ ls) :
    foldR (fun x => x) (L.filter fun t => decide (t.1 ∈ ls) && decide (t.2 ∈ ls)) x = foldR (fun x => x) (L.filter fun t => decide (t.1 ∈ ls) && decide (t.2 ∈ ls)) y := by
  have c := lot_count (ls := ls) (ringlessF_filter (fun t => decide (t.1 ∈ ls) && decide (t.2 ∈ ls)) h) fun t ht => by
    have := (List.mem_filter.mp ht).2
    rw [Bool.and_eq_true, decide_eq_true_eq, decide_eq_true_eq] at this
    exact this
  rw [List.map_id', nub_of_nd hl.nd] at c
  have ht : (L.filter fun t => decide (t.1 ∈ ls) && decide (t.2 ∈ ls)).length + 1 = ls.length := ht
  exact nub_all (by omega) (List.mem_map.mpr ⟨x, hx, rfl⟩) (List.mem_map.mpr ⟨y, hy, rfl⟩)
/-! ### a lot stays tight -/
theorem laidT_sub : ∀ {ts : List (Int × Int)} {ws ws' : List V}, ws'.length = ws.length → (∀ i : Nat, ws'[i]? = some .non → ws[i]? = some .non) → (laidT ts ws).Sublist (laidT ts ws')
  | [], _, _, _, _ => by
    unfold laidT
    rw [List.zip_nil_left]
    exact List.nil_sublist _
  | t :: ts, [], _, _, _ => by
    unfold laidT
    rw [List.zip_nil_right]
    exact List.nil_sublist _
  | t :: ts, x :: ws, [], hl, _ => by cases hl
  | t :: ts, x :: ws, y :: ws', hl, h => by
    rw [laidT_cons, laidT_cons]
    refine List.Sublist.append ?_ (laidT_sub (Nat.succ.inj hl) fun i => h (i + 1))
    by_cases e : y = V.non
    · have h0 := h 0
      have : x = V.non := Option.some.inj (h0 (by rw [e]; rfl))
      rw [if_pos this]
      exact List.nil_sublist _
    · rw [if_neg e]
      split
      · exact List.nil_sublist _
      · exact .refl _
theorem TightL.stay {ts : List (Int × Int)} {n k : Int} {ws ws' : List V} {ls : List Int} (h : TightL ts n k ws ls) (hk : 0 ≤ k) (hL : LayK ts k ws) (hL' : LayK ts k ws') (hs : ∀ i : Nat, ws'[i]? = some .non → ws[i]? = some .non) : TightL ts n k ws' ls := by
  refine ⟨h.lot, fun f f0 f1 => ?_⟩
  have h1 := (tight_iff hL hk h.lot.nd h.lot.ne).mpr fun f f0 f1 => by have := h.tight f f0 f1; omega
  have hsub : inside ls (laidT ts ws) ≤ inside ls (laidT ts ws') := ((laidT_sub (hL'.len.trans hL.len.symm) hs).filter _).length_le
  have hmost := (sum_most (s := (ls.length : Int) - 1) (g := fun f => (inside ls (layerOf ts ws' f) : Int)) (l := upTo k) fun f _ => by
    have := inside_forest (hL'.tree f) h.lot.nd h.lot.ne
    show (inside ls (layerOf ts ws' f) : Int) ≤ _
    omega).1
  rw [← inside_laid ls hL'.len hL'.each, upTo_length, show ((k.toNat : Nat) : Int) = k by omega] at hmost
  have := (tight_iff hL' hk h.lot.nd h.lot.ne).mp (by omega) f f0 f1
  omega
theorem Full_.tight {ts : List (Int × Int)} {n k : Int} {ws : List V} {tie : Nat} {ls R : List Int} (hL : LayK ts k ws) (h : Full_ ts n k ws tie ls R) : TightL ts n k ws ls ∧ (tk ts (tie : Int)).1 ∈ ls ∧ (tk ts (tie : Int)).2 ∈ ls := by
  obtain ⟨h1, h2, h3, h4, _⟩ := h
  refine ⟨⟨h1, fun f f0 f1 => h3.tree hL.len h2 (fun z => by rw [z] at h4; cases h4) hL.tree f0 f1⟩, (h2.mem _).mpr ⟨_, h4, .inl rfl⟩, (h2.mem _).mpr ⟨_, h4, .inr rfl⟩⟩
end FF
namespace FF
open PySem PySem.Spec PyProof.Rows L2
variable [LT]
/-! ### len of a dict, and layings that grow with lots noted -/
end FF
namespace FF
open PySem PySem.Spec PyProof.Rows L2
variable [LT]
/-! ### no laying lays more than the bound of a parting -/
end FF
namespace FF
open PySem PySem.Spec PyProof.Rows L2
variable [LT]
/-! ### min of a list -/
/-! ### all partings -/
end FF
namespace FF
open PySem PySem.Spec PyProof.Rows L2
variable [LT]
/-! ### as few forests as do -/
end FF
namespace FF
open PySem PySem.Spec PyProof.Rows L2
variable [LT]
/-! ### an empty tuple times an int -/
theorem tuple_mulWE (l : Addr) (items : Array Value) (n : Nat) (dd : Option Addr) (sl : Array (Option Value)) (k : Int) (u : Tok) (k0 : 0 ≤ k) (k1 : k ≤ 1000) (he : items.isEmpty = true) :
    Meets (Builtin.«tuple.__mul__» ⟨[.ref l, .int k u], []⟩) (fun _ R s => s.heap.get? l = some { cls := .type "tuple", dict := dd, data := .seq items n, slots := sl } ∧ R (.ok (.ret (Value.ref l))) s) :=
  .of_wp fun prog w A R s h => by
    obtain ⟨hp, g, d, tk, os⟩ := s
    obtain ⟨hl, h⟩ := h
    have f1 := AutoSeq1.idx_int
    have c0 : (decide (k < -(2 ^ 63)) || decide (k ≥ 2 ^ 63)) = false := by
      rw [decide_eq_false (by omega), decide_eq_false (by omega)]
      rfl
    have c1 : (items.isEmpty || k == 1) = true := by rw [he]; rfl
    wp_walk using AutoSeq1.wpAny_loadPart' hl
    repeat (first
      | (refine wpAny_ite_false (decide_eq_false (by rw [c0]; exact Bool.false_ne_true)) ?_; wp_walk using AutoSeq1.wpAny_loadPart' hl)
      | (refine wpAny_ite_true (decide_eq_true c1) ?_; wp_walk using AutoSeq1.wpAny_loadPart' hl))
    exact ⟨_, rfl, h⟩
def rRepE (K : PySem.W.Frag) : R2 := fun x y H Q => ∃ l k xs, x = .ref l ∧ y = .int k ∧ H l = some (.tup xs) ∧ 0 ≤ k ∧ k ≤ 1000 ∧ xs.length ≤ 1000 ∧ ∀ p H', Ke H H' → H' p = some (.tup (List.replicate k.toNat xs).flatten) → Q (.ref p) H'
theorem flat_nils {α : Type} : ∀ k : Nat, (List.replicate k ([] : List α)).flatten = []
  | 0 => rfl
  | k + 1 => by rw [List.replicate_succ, List.flatten_cons, flat_nils k]; rfl
section
variable {X : Cx}
theorem repE {K : PySem.W.Frag} (h : X.K = K := by rfl) : OpR X (binaryOp .Mult) (rRepE K) := by
  intro pins s σ H x y v u Q I rx ry hq
  by_cases hne : ∃ l k, x = .ref l ∧ y = .int k ∧ H l = some (.tup []) ∧ 0 ≤ k ∧ k ≤ 1000
  · obtain ⟨l, k, e1, e2, hT, h1, h2⟩ := hne
    obtain ⟨l', k', xs, e1', e2', hT', _, _, _, q⟩ := hq
    subst e1 e2
    cases e1'
    cases e2'
    rw [hT] at hT'
    cases hT'
    cases rx
    obtain ⟨t, rfl⟩ := ry
    obtain ⟨its, r, ⟨⟨cls, dd, data, sl⟩, ho, hc, n, hd⟩, hs⟩ := I.tuple (sqT_of hT)
    simp only at hc hd
    subst hc hd
    have hi : its.toArray.isEmpty = true := by
      have hle := r.length
      cases its with
      | nil => rfl
      | cons a b => cases hle
    refine wpAny_binaryOp_repeat_ref (T := "tuple") (U := "int") (by decide) ⟨_, ho, rfl⟩ (fun s' => typeIs_int s' k t) noFill_tuple_mul F.fills_int_mul F.slot_int_rmul repeat_tuple F.slot_int_index.lookup
      (call_meets F.slot_int_rmul (typeIs_int s k t) F.entry_int_rmul (F.args_int_rmul_2 _ _) (int_rmul_tuple k t l its.toArray n dd sl)
        ⟨ho, rfl, ⟨_, ho, rfl⟩, call_meets F.slot_tuple_mul ⟨_, ho, rfl⟩ F.entry_tuple_mul (F.args_tuple_mul_2 _ _) (tuple_mulWE l its.toArray n dd sl k t h1 h2 hi) ⟨ho, ?_⟩⟩)
    refine ⟨.ref l, H, I, rfl, q l H .refl ?_⟩
    rw [hT, flat_nils]
  · obtain ⟨l, k, xs, e1, e2, hT, h1, h2, hz, q⟩ := hq
    refine repU (h := h) pins s σ H x y v u Q I rx ry ⟨l, k, xs, e1, e2, hT, fun z => ?_, h1, h2, hz, q⟩
    subst z
    exact hne ⟨l, k, e1, e2, hT, h1, h2⟩
end
/-! ### whether no lot is full, by all lots -/
def canF (n : Nat) (ts : List (Int × Int)) (k : Int) : Bool := ((lotsF n).filter fun l => !l.isEmpty).all fun l => decide ((inside l ts : Int) ≤ k * ((l.length : Int) - 1))
theorem canF_iff {n : Nat} {ts : List (Int × Int)} {k : Int} : canF n ts k = true ↔ ∀ ls, Lot (n : Int) ls → (inside ls ts : Int) ≤ k * ((ls.length : Int) - 1) := by
  unfold canF
  rw [List.all_eq_true]
  constructor
  · intro h ls hL
    refine of_decide_eq_true (h ls (List.mem_filter.mpr ⟨lotsF_all n hL.up hL.ok, ?_⟩))
    cases ls with
    | nil => exact absurd rfl hL.ne
    | cons _ _ => rfl
  · intro h l hl
    obtain ⟨h1, h2⟩ := List.mem_filter.mp hl
    obtain ⟨o1, o2, _⟩ := lotsF_ok n l h1
    exact decide_eq_true (h l ⟨fun z => (by rw [z] at h2; cases h2), o1, o2⟩)
end FF
namespace FF
open PySem PySem.Spec PyProof.Rows L2
variable [LT]
/-! ### webs of which the fewest forests are known -/
end FF
namespace FF
open PySem PySem.Spec PyProof.Rows L2
variable [LT]
/-! ### [.. for .. in .. for .. in ..] -/
section
variable {X : Cx}
end
end FF
namespace FF
open PySem PySem.Spec PyProof.Rows L2
variable [LT]
/-! ### xs.remove(y): data of any depth -/
section
variable {X : Cx}
open PyProof
end
/-! ### ties at a point -/
end FF
namespace FF
open PySem PySem.Spec PyProof.Rows L2
variable [LT]
/-! ### defs that raise; try .. except; isinstance of what was caught -/
theorem DefAt.okE {P : Program} {w : World} {K : PySem.W.Frag} {mg : Str → Option Value} {base : Heap} {x : Str} {st : Stmt} {f : Addr} {fd : FuncData} {N ps : List Str} {k : Nat} {sp : Sp} (D : DefAt K mg x st ps f fd) (S : FnScope N ps (defScope st)) (len : ∀ vs H Q E, sp vs H Q E → vs.length = ps.length)
    (hbody : ∀ (A : Around) (outer : List Env) (s : Shared) (H : Hp) (vs : List V) (Q : VK) (E : XK), Room k (A.deeper (envOfC x (defScope st) s.heap.objs.size f fd.code)) → sp vs H Q E →
      ∃ t, PSs (cxOf (L2.CX P w) P w K mg base N x (defScope st) f fd.code A outer s H E) (defBody st) t ∧ t { nx := fun _ H' => Q .non H', rt := Q } (start N vs) H) : FnOk P w K mg base (L2.CX P w) (k + 1) f fd ps sp := by
  obtain ⟨oc, od, dV, kV, doc, pm, an, cdv, ct, osl, rfl, lk, hcd, _, _⟩ := D.F.ex
  exact fn_of lk hcd S len hbody
theorem ps_nox {X : Cx} {st : Stmt} {t : TS} (h : PS X.nox st t) : PS X st t := ⟨fun pins s σ H D I hw =>
  wpAny_mono (h.run pins s σ H D (I.wish _) hw) (fun _ _ q => q.unwish) fun _ _ z => False.elim z⟩
/-! #### what is told of the classes -/
inductive Xf where
  | glo (x : Str) | exc (x : Str) | ec (x : Str) | exm (x y : Str) (b : Bool) | kit (x y : Str) (b : Bool) | kitT (x : Str) (t : String) (b : Bool)
  deriving DecidableEq
def ecB (K : PySem.W.Frag) (D : Addr) : Bool :=
  He.eqO (PySem.W.findIn K (.ref D) "__getattribute__") (some (some (.builtin "BaseException.__getattribute__"))) && (He.eqO (PySem.W.findIn K (.ref D) "__getattr__") (some none) &&
  (decide (PySem.W.subIn K (.ref D) (.type "BaseException") = some true) && (PySem.W.hasDictIn K D && (He.eqO (PySem.W.findIn K (.ref D) "__class__") (some (some (.builtin "object.__class__"))) &&
  (He.eqO (PySem.W.specialIn K (.builtin "object.__class__") "__get__") (some (some (.builtin "getset_descriptor.__get__"))) && (decide (PySem.W.takesIn K (.builtin "object.__class__") = some true) && decide (PySem.W.mroIn K D (.type "object") = some true)))))))
def Xf.ok (K : PySem.W.Frag) : Xf → Bool
  | .glo x => (He.Fa.glo x).ok K
  | .exc x => (He.Fa.exc x).ok K
  | .ec x => ecB K (He.ga K x)
  | .exm x y b => (He.Fa.exm x y b).ok K
  | .kit x y b => decide (PySem.W.kitOne K (.ref (He.ga K x)) (.ref (He.ga K y)) = some b)
  | .kitT x t b => decide (PySem.W.kitOne K (.ref (He.ga K x)) (.type t) = some b)
theorem ec_ok {K : PySem.W.Frag} {x : Str} (c : (Xf.ec x).ok K = true) : ExcC K (He.ga K x) := by
  obtain ⟨c1, c⟩ := He.ba c
  obtain ⟨c2, c⟩ := He.ba c
  obtain ⟨c3, c⟩ := He.ba c
  obtain ⟨c4, c⟩ := He.ba c
  obtain ⟨c5, c⟩ := He.ba c
  obtain ⟨c6, c⟩ := He.ba c
  obtain ⟨c7, c8⟩ := He.ba c
  exact ⟨He.eqO_ok c1, He.eqO_ok c2, of_decide_eq_true c3, c4, He.eqO_ok c5, He.eqO_ok c6, of_decide_eq_true c7, of_decide_eq_true c8⟩
/-- the classes' facts -/
structure Xcs (xfs : List Xf) (K : PySem.W.Frag) (mg : Str → Option Value) : Prop where
  ok : ∀ f ∈ xfs, f.ok K = true
  g : ∀ x, Xf.glo x ∈ xfs → mg x = some (.ref (He.ga K x))
theorem Xcs.mk' {xfs : List Xf} {K : PySem.W.Frag} {h : Heap} {mg : Str → Option Value} (X : K.In h) (G : h.Ns mainGlobals mg) (c : (xfs.all fun f => f.ok K) = true) : Xcs xfs K mg :=
  ⟨List.all_eq_true.mp c, fun x hx => He.glo_ok X G (List.all_eq_true.mp c _ hx)⟩
section
variable {xfs : List Xf} {K : PySem.W.Frag} {mg : Str → Option Value} (c : Xcs xfs K mg)
include c
theorem Xcs.exm {x y : Str} {b : Bool} (h : Xf.exm x y b ∈ xfs) : PySem.W.exmOne K (.ref (He.ga K x)) (.ref (He.ga K y)) = some b := He.exm_ok (c.ok _ h)
theorem Xcs.kit {x y : Str} {b : Bool} (h : Xf.kit x y b ∈ xfs) : PySem.W.kitOne K (.ref (He.ga K x)) (.ref (He.ga K y)) = some b := of_decide_eq_true (c.ok _ h)
theorem Xcs.kitT {x : Str} {t : String} {b : Bool} (h : Xf.kitT x t b ∈ xfs) : PySem.W.kitOne K (.ref (He.ga K x)) (.type t) = some b := of_decide_eq_true (c.ok _ h)
theorem Xcs.ec {x : Str} (h : Xf.ec x ∈ xfs) : ExcC K (He.ga K x) := ec_ok (c.ok _ h)
end
/-- the name of a class -/
theorem pe_cls {X : Cx} {xfs : List Xf} {x : Str} {pos : Pos} (c : Xcs xfs X.K X.mg) (hg : Xf.glo x ∈ xfs) (hgl : Gl X x) (hdb : (x == ("__debug__" : Str)) = false := by decide) : PE X (.Name x pos) (tC (.ref (He.ga X.K x))) :=
  pe_glob hgl (c.g _ hg) rfl hdb

/-! #### what was caught, frozen -/
section
variable {X : Cx}
/-- .. within the suite that caught it -/
def rIsC (K : PySem.W.Frag) (a : Addr) (cls : Value) (d : Option Addr) : List V → Hp → VK → Prop := fun xs H Q => ∃ (D : Addr) (c : V) (cv : Value) (b : Bool), xs = [.ref a, c] ∧ cls = .ref D ∧ d = none ∧ ExcC K D ∧ (∀ u, RelV c u → u = cv) ∧ PySem.W.kitOne K (.ref D) cv = some b ∧ Q (.bl b) H
end
theorem cv_ref {a : Addr} : ∀ u, RelV (.ref a) u → u = .ref a := fun _ h => h
/-! #### try: .. except x as n: suite; what was caught stays, frozen -/
section
variable {X : Cx} {x n : Str} {c : Value} {i : Nat} {body suite : List Stmt} {b0 : Stmt} {np pos pos' : Pos} {tb : WX → TS} {ts : Addr → Value → Option Addr → TS} {Wo : WX}
end
end FF
namespace FF
open PySem PySem.Spec PyProof.Rows L2
variable [LT]
/-! ### drawn partings -/
end FF
namespace FF
open PySem PySem.Spec PyProof.Rows L2
variable [LT]
/-! ### webs drawn together -/
theorem rise_nd {ls : List Int} (h : ls.Pairwise (· < ·)) : ls.Nodup := h.imp fun z => by omega
/-! ### lots that are walked; the data of webs -/
theorem Lot.tie {n a b : Int} (h0 : 0 ≤ a) (h1 : a < b) (h2 : b < n) : Lot n [a, b] := ⟨List.cons_ne_nil _ _, .cons (fun y hy => by rw [List.mem_singleton.mp hy]; exact h1) (List.pairwise_singleton _ _), fun x hx => by
  rcases List.mem_cons.mp hx with rfl | hx
  · exact ⟨h0, by omega⟩
  · rw [List.mem_singleton.mp hx]
    exact ⟨by omega, h2⟩⟩
def dWeb (n : Int) (ts : List (Int × Int)) : PyData := .tuple [.int n, dE ts]
theorem Web.dp {K : PySem.W.Frag} {H : Hp} {v : V} {n : Int} {ts : List (Int × Int)} (W : Web H v n ts) : Dp K H v (dWeb n ts) := by
  obtain ⟨t, u, rs, rfl, h1, h2, h3⟩ := W
  exact .tup (sqT_of h1) (.cons (.int _) (.cons (.tup (sqT_of h2) h3.dpA) .nil))
theorem dWeb_sh (n : Int) (ts : List (Int × Int)) : Sh 3 (dWeb n ts) := Sh.tup fun d hd => by
  rcases List.mem_cons.mp hd with rfl | hd
  · exact Sh.int.up (by decide)
  · rw [List.mem_singleton.mp hd]
    exact dE_sh _
theorem Lot.head {n : Int} {ls : List Int} (h : Lot n ls) : ls.headD 0 ∈ ls := by
  cases e : ls with
  | nil => exact absurd e h.ne
  | cons x r => exact List.mem_cons_self
end FF
namespace FF
open PySem PySem.Spec PyProof.Rows L2
variable [LT]
/-! ### sorted(tuple of ints) -/
section
variable {prog : Program} {w : World} {A : Around} {E : Value → Shared → Prop} {s : Shared}
end
end FF
namespace FF
open PySem PySem.Spec PyProof.Rows L2
variable [LT]
/-! ### glued layings -/
end FF
namespace FF
open PySem PySem.Spec PyProof.Rows L2
variable [LT]
/-! ### lots of the inner web, in the web -/
end FF
namespace FF
open PySem PySem.Spec PyProof.Rows L2
variable [LT]
/-! ### things that are looked at as webs -/
def tieO (n : Int) : Option (List V) → Bool
  | some [x, .int j] => isNum (.int j) 0 (n - 1) && isNum x 0 (j - 1)
  | _ => false
inductive WT (H : Hp) : V → Bool → Prop
  | no {v : V} {nm : String} (h : TyN H v nm) (hn : nm ≠ "tuple") : WT H v false
  | len {a : Addr} {xs : List V} (h : H a = some (.tup xs)) (hl : xs.length ≠ 2) : WT H (.ref a) false
  | pts {a : Addr} {x y : V} {nm : String} (h : H a = some (.tup [x, y])) (hx : TyN H x nm) (hb : isNum x 1 40 = false) : WT H (.ref a) false
  | tys {a : Addr} {n : Int} {y : V} {nm : String} (h : H a = some (.tup [.int n, y])) (h0 : 1 ≤ n) (h1 : n ≤ 40) (hy : TyN H y nm) (hn : nm ≠ "tuple") : WT H (.ref a) false
  | many {a u : Addr} {n : Int} {rs : List V} (h : H a = some (.tup [.int n, .ref u])) (h0 : 1 ≤ n) (h1 : n ≤ 40) (hu : H u = some (.tup rs)) (hl : 120 < rs.length) : WT H (.ref a) false
  | ties {a u : Addr} {n : Int} {rs : List V} {os : List (Option (List V))} (h : H a = some (.tup [.int n, .ref u])) (h0 : 1 ≤ n) (h1 : n ≤ 40) (hu : H u = some (.tup rs)) (hl : rs.length ≤ 120) (hr : Paired (Tpl H) rs os) : WT H (.ref a) (os.all (tieO n))
theorem Ties.tpl {H : Hp} : ∀ {rs : List V} {ts : List (Int × Int)}, Ties H rs ts → Paired (Tpl H) rs (ts.map fun t => some [V.int t.1, .int t.2])
  | _, _, .nil => .nil
  | _, _, .cons ⟨q, e, h⟩ t => by
    subst e
    exact .cons (.yes h fun x hx => by
      rcases List.mem_cons.mp hx with rfl | hx
      · exact ⟨_, .int _⟩
      · rw [List.mem_singleton.mp hx]
        exact ⟨_, .int _⟩) (Ties.tpl t)
theorem tieO_ok {n : Int} {t : Int × Int} : tieO n (some [V.int t.1, .int t.2]) = true ↔ 0 ≤ t.1 ∧ t.1 < t.2 ∧ t.2 < n := by
  show (((decide (0 ≤ t.2) && decide (t.2 ≤ n - 1)) && (decide (0 ≤ t.1) && decide (t.1 ≤ t.2 - 1))) = true) ↔ _
  rw [Bool.and_eq_true, Bool.and_eq_true, Bool.and_eq_true, decide_eq_true_eq, decide_eq_true_eq, decide_eq_true_eq, decide_eq_true_eq]
  omega
theorem Web.wt {H : Hp} {v : V} {n : Int} {ts : List (Int × Int)} (W : Web H v n ts) (ok : TOk n ts) (h0 : 1 ≤ n) (h1 : n ≤ 40) (hl : ts.length ≤ 120) : WT H v true := by
  obtain ⟨t, u, rs, rfl, h2, h3, h4⟩ := W
  have e : ((ts.map fun t => some [V.int t.1, .int t.2]).all (tieO n)) = true := List.all_eq_true.mpr fun o ho => by
    obtain ⟨t, ht, rfl⟩ := List.mem_map.mp ho
    exact tieO_ok.mpr (ok t ht)
  rw [← e]
  exact .ties h2 h0 h1 h3 (by rw [h4.length]; exact hl) h4.tpl
theorem WT.ke {H H' : Hp} {v : V} {b : Bool} (h : WT H v b) (k : Ke H H') : WT H' v b := by
  cases h with
  | no h hn => exact .no (h.ke k) hn
  | len h hl => exact .len (k.tup h) hl
  | pts h hx hb => exact .pts (k.tup h) (hx.ke k) hb
  | tys h h0 h1 hy hn => exact .tys (k.tup h) h0 h1 (hy.ke k) hn
  | many h h0 h1 hu hl => exact .many (k.tup h) h0 h1 (k.tup hu) hl
  | ties h h0 h1 hu hl hr => exact .ties (k.tup h) h0 h1 (k.tup hu) hl (Paired.mapP hr fun _ _ z => z.ke k)
end FF
namespace FF
open PySem PySem.Spec PyProof.Rows L2
variable [LT]
/-! ### rows of things that are not ties, and of things that are no webs -/
theorem WT.mono {H H' : Hp} {v : V} {b : Bool} (h : WT H v b) (k : ∀ q xs, H q = some (.tup xs) → H' q = some (.tup xs)) (y : ∀ v n, TyN H v n → TyN H' v n) : WT H' v b := by
  cases h with
  | no h hn => exact .no (y _ _ h) hn
  | len h hl => exact .len (k _ _ h) hl
  | pts h hx hb => exact .pts (k _ _ h) (y _ _ hx) hb
  | tys h h0 h1 hy hn => exact .tys (k _ _ h) h0 h1 (y _ _ hy) hn
  | many h h0 h1 hu hl => exact .many (k _ _ h) h0 h1 (k _ _ hu) hl
  | ties h h0 h1 hu hl hr => exact .ties (k _ _ h) h0 h1 (k _ _ hu) hl (Paired.mapP hr fun _ _ z => z.mono k y)
/-- points that are none, with any ties -/
structure PTs (H : Hp) (xs : List V) : Prop where
  all : ∀ x ∈ xs, ∃ nm, TyN H x nm ∧ isNum x 1 40 = false
theorem PTs.nil {H : Hp} : PTs H [] := ⟨fun _ z => nomatch z⟩
theorem PTs.cons {H : Hp} {x : V} {nm : String} {xs : List V} (h : TyN H x nm) (e : isNum x 1 40 = false) (t : PTs H xs) : PTs H (x :: xs) := ⟨fun y hy => by
  rcases List.mem_cons.mp hy with rfl | hy
  · exact ⟨nm, h, e⟩
  · exact t.all y hy⟩
theorem PTs.ke {H H' : Hp} {xs : List V} (h : PTs H xs) (k : Ke H H') : PTs H' xs := ⟨fun x hx => by
  obtain ⟨o, t, e⟩ := h.all x hx
  exact ⟨o, t.ke k, e⟩⟩
theorem PTs.sub {H : Hp} {xs ys : List V} (h : PTs H xs) (k : ∀ y ∈ ys, y ∈ xs) : PTs H ys := ⟨fun y hy => h.all y (k y hy)⟩
theorem PTs.new {H : Hp} {p : Addr} {o : HO} {xs : List V} (h : PTs H xs) (k : H p = none) : PTs (upd H p o) xs := h.ke (Ke.new k)
theorem PTs.wt {H H' : Hp} {xs : List V} {x y : V} {p : Addr} (h : PTs H xs) (hx : x ∈ xs) (k : Ke H H') (hp : H' p = some (.tup [x, y])) : WT H' (.ref p) false := by
  obtain ⟨nm, t, e⟩ := h.all x hx
  exact .pts hp (t.ke k) e
end FF
namespace FF
open PySem PySem.Spec PyProof.Rows L2
variable [LT]
/-! ### l != [] by lengths alone -/
section
variable {X : Cx}
end
/-! ### str(x) of an int or None -/
section
variable {X : Cx}
end
end FF
namespace FF
open PySem PySem.Spec PyProof.Rows L2
variable [LT]
/-! ### how many ties lie between the parts: paths, rounds, full webs -/
/-! ### the most trees of webs that are known -/
end FF
namespace FF
open PySem PySem.Spec PyProof.Rows L2
variable [LT]
/-! ### a class by its name, within a suite too -/
theorem pe_clsK {X : Cx} {xfs : List Xf} {K : PySem.W.Frag} {mg : Str → Option Value} {x : Str} {pos : Pos} (c : Xcs xfs K mg) (hg : Xf.glo x ∈ xfs) (hgl : Gl X x) (hK : X.K = K := by rfl) (hm : X.mg = mg := by rfl) (hdb : (x == ("__debug__" : Str)) = false := by decide) : PE X (.Name x pos) (tC (.ref (He.ga K x))) := by
  subst hK hm
  exact pe_cls c hg hgl hdb
theorem Ties.reps {H : Hp} {rs : List V} {ts : List (Int × Int)} (h : Ties H rs ts) : ∀ k : Nat, Ties H (List.replicate k rs).flatten (List.replicate k ts).flatten
  | 0 => .nil
  | k + 1 => by
    rw [List.replicate_succ, List.replicate_succ, List.flatten_cons, List.flatten_cons]
    exact h.append (h.reps k)
theorem TOk.reps {n : Int} {ts : List (Int × Int)} (h : TOk n ts) (k : Nat) : TOk n (List.replicate k ts).flatten := fun t ht => by
  obtain ⟨l, hl, hx⟩ := List.mem_flatten.mp ht
  rw [(List.mem_replicate.mp hl).2] at hx
  exact h t hx
end FF
namespace FF
open PySem PySem.Spec PyProof.Rows L2
variable [LT]
/-! ### tuples that are known to the object: displays and + -/
/-- kinds of things, tuples known to the object among them -/
inductive TyF (H : Hp) : V → String → Prop where
  | non : TyF H .non "NoneType"
  | bl (b : Bool) : TyF H (.bl b) "bool"
  | int (i : Int) : TyF H (.int i) "int"
  | str (x : Str) : TyF H (.str x) "str"
  | lst {a : Addr} {xs : List V} (h : H a = some (.lst xs)) : TyF H (.ref a) "list"
  | tup {a : Addr} {xs : List V} (h : H a = some (.tup xs)) : TyF H (.ref a) "tuple"
  | dic {a : Addr} {kvs : List (Key × V)} (h : H a = some (.dK kvs)) : TyF H (.ref a) "dict"
  | tf {a : Addr} {xs : List V} (h : TF H a xs) : TyF H (.ref a) "tuple"
theorem TyN.f {H : Hp} {v : V} {n : String} (h : TyN H v n) : TyF H v n := by
  cases h with
  | non => exact .non
  | bl b => exact .bl b
  | int i => exact .int i
  | str x => exact .str x
  | lst h => exact .lst h
  | tup h => exact .tup h
  | dic h => exact .dic h
theorem TyF.split {H : Hp} {v : V} {n : String} (h : TyF H v n) : TyN H v n ∨ (n = "tuple" ∧ ∃ a xs, v = .ref a ∧ TF H a xs) := by
  cases h with
  | non => exact .inl .non
  | bl b => exact .inl (.bl b)
  | int i => exact .inl (.int i)
  | str x => exact .inl (.str x)
  | lst h => exact .inl (.lst h)
  | tup h => exact .inl (.tup h)
  | dic h => exact .inl (.dic h)
  | tf h => exact .inr ⟨rfl, _, _, rfl, h⟩
theorem TyF.x {K : PySem.W.Frag} {H : Hp} {v : V} {n : String} (h : TyF H v n) : TyX K H v (.type n) := by
  rcases h.split with h | ⟨rfl, a, xs, rfl, o, ht, _⟩
  · exact h.x
  · exact .fTuple ht
theorem TyF.ke {H H' : Hp} {v : V} {n : String} (h : TyF H v n) (k : Ke H H') : TyF H' v n := by
  rcases h.split with h | ⟨rfl, a, xs, rfl, ht⟩
  · exact (h.ke k).f
  · exact .tf (ht.ke k)
theorem TyF.put {H : Hp} {p : Addr} {xs ys : List V} {v : V} {n : String} (h : TyF H v n) (k : H p = some (.lst xs)) : TyF (upd H p (.lst ys)) v n := by
  rcases h.split with h | ⟨rfl, a, zs, rfl, ht⟩
  · exact (h.put k).f
  · exact .tf (ht.put k)
theorem TyF.dk {H H' : Hp} {p : Addr} {v : V} {n : String} (h : TyF H v n) (k : Dk p H H') (d : Deck H p) : TyF H' v n := by
  rcases h.split with h | ⟨rfl, a, zs, rfl, ht⟩
  · exact (h.dk k d).f
  · exact .tf (ht.dk k d)
inductive ThG (K : PySem.W.Frag) (H : Hp) : V → Option (List V) → Prop where
  | no {v : V} {nm : String} (h : TyF H v nm) (hn : nm ≠ "tuple") : ThG K H v none
  | yes {a : Addr} {xs : List V} (h : SqT K H a xs) (ht : TyX K H (.ref a) (.type "tuple")) (hx : ∀ x ∈ xs, ∃ n, TyF H x n) : ThG K H (.ref a) (some xs)
theorem Tpl.g {K : PySem.W.Frag} {H : Hp} {v : V} {o : Option (List V)} (h : Tpl H v o) : ThG K H v o := by
  cases h with
  | no h hn => exact .no h.f hn
  | yes h hx => exact .yes (sqT_of h) (TyF.x (.tup h)) fun x hm => (hx x hm).imp fun _ z => z.f
end FF
namespace FF
open PySem PySem.Spec PyProof.Rows L2
variable [LT]
/-! ### hung from a told root -/
end FF
namespace FF
open PySem PySem.Spec PyProof.Rows L2
variable [LT]
/-! ### points that one comes to along ways, and ties turned -/
section
variable {X : Cx} {K : PySem.W.Frag}
end
/-! ### turned -/
/-! ### as few outs as can be -/
end FF
namespace FF
open PySem PySem.Spec PyProof.Rows L2
variable [LT]
/-! ### layers split into forests -/
section
variable {n d : Int} {ts : List (Int × Int)} {ls : List Int}
end
section
variable {n : Int} {ts : List (Int × Int)} {ls : List Int}
end
end FF
namespace FF
open PySem PySem.Spec PyProof.Rows L2
variable [LT]
/-! ### two points tied many times -/
end FF
namespace FF
open PySem PySem.Spec PyProof.Rows L2
variable [LT]
/-! ### a list cut where a truth tells the place -/
section
variable {prog : Program} {w : World} {A : Around} {E : Value → Shared → Prop} {s : Shared}
end
section
variable {prog : Program} {w : World} {A : Around} {E : Value → Shared → Prop} {s : Shared}
end
section
variable {X : Cx} {K : PySem.W.Frag} {e lo : Expr} {te tl : TE} {pos p2 : Pos}
end
end FF
namespace FF
open PySem PySem.Spec PyProof.Rows L2
variable [LT]
/-! ### a ring's layer split -/
end FF
namespace FF
open PySem PySem.Spec PyProof.Rows L2
variable [LT]
/-! ### the set of a tuple of ties -/
section
variable {P : Program} {w : World} {A : Around} {E : Value → Shared → Prop} {s : Shared}
end
section
variable {X : Cx}
end
end FF
namespace FF
open PySem PySem.Spec PyProof.Rows L2
variable [LT]
/-! ### the least outs beside the least forests -/
end FF
namespace FF
open PySem PySem.Spec PyProof.Rows L2
variable [LT]
/-! ### rooms: pairs of points that a lot holds, and rows for the others -/
end FF
namespace FF
open PySem PySem.Spec PyProof.Rows L2
variable [LT]
/-! ### what a lot that holds a pair, or a row for it, tells of the web with that tie -/
end FF
namespace FF
open PySem PySem.Spec PyProof.Rows L2
variable [LT]
/-! ### what rooms_of tells -/
end FF
namespace FF
open PySem PySem.Spec PyProof.Rows L2
variable [LT]
/-! ### rows picked out of what rooms_of tells -/
end FF
namespace FF
open PySem PySem.Spec PyProof.Rows L2
variable [LT]
/-! ### (x,) * k known to the object; t.count(None) -/
section
variable {X : Cx}
end
end FF
namespace FF
open PySem PySem.Spec PyProof.Rows L2
variable [LT]
/-! ### lots within lots -/
end FF
namespace FF
open PySem PySem.Spec PyProof.Rows L2
variable [LT]
/-! ### the sorted list of all pairs -/
end FF
namespace FF
open PySem PySem.Spec PyProof.Rows L2
variable [LT]
/-! ### sorted of a list of tuples of ints, any length -/
/-! ### the outs of all ways -/
end FF
namespace FF
open PySem PySem.Spec PyProof.Rows L2
variable [LT]
/-! ### methods of the text's own classes -/
section
variable {P : Program} {w : World} {K : PySem.W.Frag} {mg : Str → Option Value} {base : Heap} {m qual : Str} {st : Stmt} {f C : Addr} {fd : FuncData} {N ps : List Str} {k : Nat} {sp : Sp}
end
/-! a method called within a try -/
section
variable {X : Cx} {CX : CXT} {k : Nat} {f C : Addr} {fd : FuncData} {ps : List Str} {sp : Sp} {E : L2.St → XK} {m : Str} {pos apos : Pos} {e o : Expr} {es : List Expr} {ta : TE} {t : TA}
end
end FF
namespace FF
open PySem PySem.Spec PyProof.Rows L2
variable [LT]
/-! ### a desk's fields -/
section
variable {a b c d e v : V}
end
theorem Kx.web {S : Addr → Prop} {H H' : Hp} {v : V} {n : Int} {ts : List (Int × Int)} (k : Kx S H H') (hs : ∀ b xs, H b = some (.tup xs) → ¬ S b) (W : Web H v n ts) : Web H' v n ts := by
  obtain ⟨tw, wu, rs, rfl, h1, h2, h3⟩ := W
  exact ⟨tw, wu, rs, rfl, k.tup h1 (hs _ _ h1), k.tup h2 (hs _ _ h2), h3.mono fun q xs z => k.tup z (hs _ _ z)⟩
/-! ### what a desk is told, and what it tells -/
/-! ### one forest fewer -/
end FF
namespace FF
open PySem PySem.Spec PyProof.Rows L2
variable [LT]
/-! ### walks within an except suite -/
section
open PySem PySem.Calls HotX
variable {pr : Program} {wo : World} {A : Around} {E : Value → Shared → Prop} {s : Shared}
end
section
open PySem PySem.Calls HotX L2H
end
section
open PySem PySem.Calls HotX L2H
end
section
open HotX L2H
theorem takesNN {X : Cx} : L2N.Takes X (fun _ _ _ _ => False) := fun _ _ x => by
  obtain ⟨_, _, _, _, _, _, _, _, _, _, _, _, _, _, _, _, z⟩ := x
  exact z.elim
theorem ps_raiseCN {X : Cx} {W : WX} {xfs : List Xf} {x m : Str} {j : Nat} {p p2 pos pos2 : Pos} (c : Xcs xfs X.K X.mg) (hx : Xf.exc x ∈ xfs) (hg : Xf.glo x ∈ xfs) (hc : X.calm = true) (tk : L2N.Takes X W) (hgl : Gl X x)
    (hdb : (x == ("__debug__" : Str)) = false := by decide) : PS X (.Raise (some (.Call (.Name x p) [.Constant (.str m) j p2] [] pos)) none pos2) (fun _ σ H => W (.ref (He.ga X.K x)) none σ H) := by
  obtain ⟨d1, d2, d3, d4⟩ := He.exc_ok (c.ok _ hx)
  exact L2N.ps_raise hc tk (L2N.pmk_own PySem.F.excBase_ValueError d1 (c.g _ hg) d2 (raises_own d3 d4) hgl hdb)
end
section
open HotX L2H
end
end FF
namespace FF
open PySem PySem.Spec PyProof.Rows L2
variable [LT]
/-! ### min of a tuple of ints -/
section
variable {X : Cx} {K : PySem.W.Frag}
end
end FF
namespace FF
open PySem PySem.Spec PyProof.Rows L2
variable [LT]
/-! ### desks: what stays, and what is told as data -/
section
variable {K : PySem.W.Frag} {H H' : Hp} {x : Addr} {n : Int} {ts : List (Int × Int)} {k : Int} {ws : List V} {rv : V} {m : Int}
end
section
variable {K : PySem.W.Frag} {H H' : Hp}
mutual
theorem Dp.mono (hl : ∀ a xs, SqL K H a xs → SqL K H' a xs) (ht : ∀ a xs, SqT K H a xs → SqT K H' a xs) : ∀ (d : PyData) (v : V), Dp K H v d → Dp K H' v d
  | .none, _, h => by
    cases h
    exact .non
  | .bool b, _, h => by
    cases h
    exact .bl b
  | .int i, _, h => by
    cases h
    exact .int i
  | .str x, _, h => by
    cases h
    exact .str x
  | .list ds, _, h => by
    cases h with
    | lst hs ha => exact .lst (hl _ _ hs) (DpAll.mono hl ht ds _ ha)
  | .tuple ds, _, h => by
    cases h with
    | tup hs ha => exact .tup (ht _ _ hs) (DpAll.mono hl ht ds _ ha)
  | .dict _, _, h => by cases h
theorem DpAll.mono (hl : ∀ a xs, SqL K H a xs → SqL K H' a xs) (ht : ∀ a xs, SqT K H a xs → SqT K H' a xs) : ∀ (ds : List PyData) (vs : List V), DpAll K H vs ds → DpAll K H' vs ds
  | [], _, h => by
    cases h
    exact .nil
  | d :: ds, _, h => by
    cases h with
    | cons h1 h2 => exact .cons (Dp.mono hl ht d _ h1) (DpAll.mono hl ht ds _ h2)
end
end
end FF
namespace FF
open PySem PySem.Spec PyProof.Rows L2
variable [LT]
/-! ### what a desk is due to tell, by the fewest forests -/
end FF
namespace FF
open PySem PySem.Spec PyProof.Rows L2
variable [LT]
/-! ### desks: webs, and what stands of a desk -/
end FF
namespace FF
open PySem PySem.Spec PyProof.Rows L2
variable [LT]
/-! ### is not of any thing and a bool -/
end FF
namespace FF
open PySem PySem.Spec PyProof.Rows L2
variable [LT]
/-! ### a desk's deeds, each with one outcome -/
end FF
namespace FF
open PySem PySem.Spec PyProof.Rows L2
variable [LT]
/-! ### a, b, .. = a list of that length -/
end FF
namespace FF
open PySem PySem.Spec PyProof.Rows L2
variable [LT]
/-! ### what is told stays -/
structure Kp (H H' : Hp) : Prop where
  tup : ∀ q xs, H q = some (.tup xs) → H' q = some (.tup xs)
  str : ∀ l s r, H l = some (.lst (.str s :: r)) → H' l = some (.lst (.str s :: r))
theorem Kp.trans {H H' H2 : Hp} (a : Kp H H') (b : Kp H' H2) : Kp H H2 := ⟨fun q xs z => b.tup q xs (a.tup q xs z), fun l s r z => b.str l s r (a.str l s r z)⟩
theorem Ke.kp {H H' : Hp} (k : Ke H H') : Kp H H' := ⟨fun _ _ z => Ke.tup k z, fun _ _ _ z => Ke.lst k z⟩
theorem Kp.put {H : Hp} {p : Addr} {hs hs' : List V} (h : H p = some (.lst hs)) (hn : ∀ s r, hs ≠ .str s :: r) : Kp H (upd H p (.lst hs')) := ⟨fun q xs z => by
  rw [upd_ne (ne_of z h fun y => nomatch y)]
  exact z, fun l s r z => by
  rw [upd_ne fun e => ?_]
  · exact z
  · rw [e, h] at z
    injection z with z
    injection z with z
    exact hn s r z⟩
theorem Dk.kp {p : Addr} {H H' : Hp} (k : Dk p H H') (d : Deck H p) : Kp H H' := ⟨fun q xs z => k.tup d z, fun l s r z => k.lst z fun e => by
  obtain ⟨ds, h, _⟩ := d
  rw [e, h] at z
  injection z with z
  injection z with z
  cases ds with
  | nil => cases z
  | cons a b => cases z⟩
end FF
namespace FF
open PySem PySem.Spec PyProof.Rows L2
variable [LT]
/-! ### sorted(tuple of pairs) -/
section
variable {prog : Program} {w : World} {A : Around} {E : Value → Shared → Prop} {s : Shared}
end
/-! ### collections in which no lot is full -/
section
variable {K : PySem.W.Frag} {H H' : Hp} {x : Addr} {n : Int} {ts : List (Int × Int)} {k : Int} {ws : List V} {rv : V} {m : Int} {l : Addr}
end
end FF
namespace FF
open PySem PySem.Spec PyProof.Rows L2
variable [LT]
/-! ### the search from several ties at once -/
section
variable {ts : List (Int × Int)} {ws : List V} {k : Int} {Zs : List Int} {fl : List (Int × Option (Int × Int))} {lv : Nat → Nat} {a : Nat}
end
section
variable {H : Hp} {n : Int} {ts : List (Int × Int)} {ws : List V} {k : Int} {Zs : List Int} {d nb hg wt : Addr} {bl : List (Int × Addr)} {G G' : Hp} {pl pl' : List (Int × V)} {fl fl' : List (Int × Option (Int × Int))} {lv lv' : Nat → Nat} {a a' : Nat} {gl gl' : List (Int × Addr)}
end
end FF
namespace FF
open PySem PySem.Spec PyProof.Rows L2
variable [LT]
/-! ### what lies within a tight lot stays there -/
section
variable {ts : List (Int × Int)} {n k : Int} {ws : List V} {ls : List Int}
abbrev inL (ts : List (Int × Int)) (ls : List Int) (m : Int) : Prop := (tk ts m).1 ∈ ls ∧ (tk ts m).2 ∈ ls
theorem TightL.joined (h : TightL ts n k ws ls) (hL : LayK ts k ws) {f : Int} (f0 : 0 ≤ f) (f1 : f < k) {a b : Int} (ha : a ∈ ls) (hb : b ∈ ls) : jn ts ((numsFrom f 0 ws).filter fun m => decide ((tk ts m).1 ∈ ls) && decide ((tk ts m).2 ∈ ls)) a b := by
  have e : pick ts ((numsFrom f 0 ws).filter fun m => decide ((tk ts m).1 ∈ ls) && decide ((tk ts m).2 ∈ ls)) = (layerOf ts ws f).filter fun t => decide (t.1 ∈ ls) && decide (t.2 ∈ ls) := by
    rw [← show pick ts (numsFrom f 0 ws) = layerOf ts ws f from pick_nums f [] ts ws hL.len.symm]
    unfold pick
    rw [List.filter_map]
    rfl
  show foldR (fun x => x) (pick ts _) a = foldR (fun x => x) (pick ts _) b
  rw [e]
  exact tight_joined (hL.tree f) h.lot (h.tight f f0 f1) ha hb
theorem TightL.ring (h : TightL ts n k ws ls) (hL : LayK ts k ws) {f : Int} (f0 : 0 ≤ f) (f1 : f < k) {s x : Int} (hs : inL ts ls s) (ho : OnR ts (numsFrom f 0 ws) s x) : inL ts ls x := by
  by_cases c : inL ts ls x
  · exact c
  · refine (ho.2 (jn_sub (fun m hm => ?_) (h.joined hL f0 f1 hs.1 hs.2))).elim
    obtain ⟨m1, m2⟩ := List.mem_filter.mp hm
    rw [Bool.and_eq_true, decide_eq_true_eq, decide_eq_true_eq] at m2
    unfold but
    refine List.mem_filter.mpr ⟨m1, ?_⟩
    rw [decide_eq_false (p := m = x) fun z => c (by rw [← z]; exact m2)]
    rfl
theorem TightL.rch (h : TightL ts n k ws ls) (hL : LayK ts k ws) {t x : Int} (ht : inL ts ls t) (hr : Rch ts ws k t x) : inL ts ls x := by
  induction hr with
  | base => exact ht
  | step _ f0 f1 _ _ ho ih => exact h.ring hL f0 f1 ih ho
theorem TightL.no_row (h : TightL ts n k ws ls) (hL : LayK ts k ws) : ∀ {es : List (Int × Int)} {e : Int × Int} {r : List (Int × Int)}, es = e :: r → PRow ts ws k es → inL ts ls e.1 → False
  | [], _, _, h0, _, _ => nomatch h0
  | [e], _, _, h0, hp, hi => by
    cases h0
    obtain ⟨_, f0, f1⟩ := hp.bd e (List.mem_singleton.mpr rfl)
    have hj : joinB ts ws e = true := (jn_join hL.len).mpr (jn_sub (fun m hm => (List.mem_filter.mp hm).1) (h.joined hL f0 f1 hi.1 hi.2))
    have hq : (!joinB ts ws e) = true := hp.push
    rw [hj] at hq
    cases hq
  | e :: e' :: r, _, _, h0, hp, hi => by
    cases h0
    obtain ⟨_, f0, f1⟩ := hp.bd e List.mem_cons_self
    have ho := (pushB_parts.mp hp.push).2.1
    exact h.no_row hL rfl hp.tail (h.ring hL f0 f1 hi ho)
theorem TightL.free (h : TightL ts n k ws ls) (hL : LayK ts k ws) {t : Int} (ht : inL ts ls t) : ¬ ∃ d r, PRow ts ws k (d :: r) ∧ d.1 = t := fun ⟨d, r, hp, e⟩ => h.no_row hL rfl hp (e ▸ ht)
end
/-! ### what is reached from a tie that no row lays -/
theorem Closed.tight {ts : List (Int × Int)} {n k : Int} {ws : List V} {R ls : List Int} (h : Closed ts ws k R) (hL : LayK ts k ws) (hE : EndsOf ts R ls) (hl : Lot n ls) (hne : R ≠ []) : TightL ts n k ws ls := ⟨hl, fun f f0 f1 => h.tree hL.len hE hne hL.tree f0 f1⟩
/-! ### the noted lots are the least -/
theorem filter_imp {α : Type} {p q : α → Bool} (h : ∀ x, p x = true → q x = true) (l : List α) : l.filter p = (l.filter q).filter p := by
  rw [List.filter_filter]
  refine List.filter_congr fun x _ => ?_
  cases e : p x with
  | false => rfl
  | true => rw [h x e]; rfl
/-- ties within a tight lot are the same when more is laid -/
theorem TightL.back {ts : List (Int × Int)} {n k : Int} {ws ws' : List V} {ls ls' : List Int} (h : TightL ts n k ws ls) (hk : 0 ≤ k) (hL : LayK ts k ws) (hL' : LayK ts k ws') (hs : ∀ i : Nat, ws'[i]? = some .non → ws[i]? = some .non) (h' : TightL ts n k ws' ls') (sub : ∀ x ∈ ls', x ∈ ls) : TightL ts n k ws ls' := by
  refine ⟨h'.lot, fun f f0 f1 => ?_⟩
  have hst := h.stay hk hL hL' hs
  have e1 := (tight_iff hL hk h.lot.nd h.lot.ne).mpr fun f f0 f1 => by have := h.tight f f0 f1; omega
  have e2 := (tight_iff hL' hk h.lot.nd h.lot.ne).mpr fun f f0 f1 => by have := hst.tight f f0 f1; omega
  have sl := (laidT_sub (ts := ts) (hL'.len.trans hL.len.symm) hs).filter fun t : Int × Int => decide (t.1 ∈ ls) && decide (t.2 ∈ ls)
  have ee : (laidT ts ws).filter (fun t : Int × Int => decide (t.1 ∈ ls) && decide (t.2 ∈ ls)) = (laidT ts ws').filter fun t : Int × Int => decide (t.1 ∈ ls) && decide (t.2 ∈ ls) := sl.eq_of_length (by
    unfold inside at e1 e2
    omega)
  have hp : ∀ t : Int × Int, (decide (t.1 ∈ ls') && decide (t.2 ∈ ls')) = true → (decide (t.1 ∈ ls) && decide (t.2 ∈ ls)) = true := fun t z => by
    rw [Bool.and_eq_true, decide_eq_true_eq, decide_eq_true_eq] at z ⊢
    exact ⟨sub _ z.1, sub _ z.2⟩
  have e3 : inside ls' (laidT ts ws) = inside ls' (laidT ts ws') := by
    unfold inside
    rw [filter_imp hp (laidT ts ws), filter_imp hp (laidT ts ws'), ee]
  have e4 := (tight_iff hL' hk h'.lot.nd h'.lot.ne).mpr fun f f0 f1 => by have := h'.tight f f0 f1; omega
  rw [← e3] at e4
  have := (tight_iff hL hk h'.lot.nd h'.lot.ne).mp e4 f f0 f1
  omega
end FF
namespace FF
open PySem PySem.Spec PyProof.Rows L2
variable [LT]
/-! ### which ties some fullest laying leaves out -/
section
variable {ts : List (Int × Int)} {n k : Int} {ws : List V} {Zs : List Int} {fl : List (Int × Option (Int × Int))} {lv : Nat → Nat} {a : Nat}
/-! ### the row that leaves a tie out -/
end
end FF
namespace FF
open PySem PySem.Spec PyProof.Rows L2
variable [LT]
/-! ### what needed_ties tells -/
theorem Pth.key {fl : FlT} {x : Int} {es : List (Int × Int)} (h : Pth fl x es) : x ∈ fl.map Prod.fst := by
  cases h with
  | root h => exact List.mem_map.mpr ⟨_, h, rfl⟩
  | step h _ => exact List.mem_map.mpr ⟨_, h, rfl⟩
end FF
namespace FF
open PySem PySem.Spec PyProof.Rows L2
variable [LT]
/-! ### all layings of a small web -/
/-- a laying of one tie more is a laying and an entry -/
theorem LayK.init {ts : List (Int × Int)} {k : Int} {ws : List V} {i : Nat} (hi : i < ts.length) (h : LayK (ts.take (i + 1)) k ws) : ∃ us x, ws = us ++ [x] ∧ LayK (ts.take i) k us ∧ (x = .non ∨ ∃ f, x = V.int f ∧ 0 ≤ f ∧ f < k) := by
  have hl := h.len
  rw [List.length_take] at hl
  have hne : ws ≠ [] := fun z => by rw [z] at hl; have : 0 = min (i + 1) ts.length := hl; omega
  obtain ⟨us, x, rfl⟩ : ∃ us x, ws = us ++ [x] := ⟨_, _, (List.dropLast_concat_getLast hne).symm⟩
  rw [List.length_append, List.length_singleton] at hl
  refine ⟨us, x, rfl, ?_, h.each x (List.mem_append_right _ List.mem_cons_self)⟩
  have := h.erase (g := i) (by rw [List.length_take]; omega)
  rw [show (us ++ [x]).eraseIdx i = us by rw [List.eraseIdx_append_of_length_le (by omega), show i - us.length = 0 by omega]; exact List.append_nil _, show (ts.take (i + 1)).eraseIdx i = ts.take i by rw [List.take_add_one, List.eraseIdx_append_of_length_le (by rw [List.length_take]; omega), List.length_take, show i - min i ts.length = 0 by omega, List.getElem?_eq_getElem hi]; exact List.append_nil _] at this
  exact this
end FF
namespace FF
open PySem PySem.Spec PyProof.Rows L2
variable [LT]
/-! ### what needed_ties tells, as data -/
end FF
namespace FF
open PySem PySem.Spec PyProof.Rows L2
variable [LT]
/-! ### a search that notes whence each came -/
section
variable {H H' : Hp} {kl : List (Int × V)} {pl : List (Int × Option (Int × Int))}
end
section
variable {n : Int} {ts : List (Int × Int)} {ms : List Int} {a : Int} {pl : List (Int × Option (Int × Int))}
end
end FF
namespace FF
open PySem PySem.Spec PyProof.Rows L2
variable [LT]
/-! ### tuple(reversed(xs)) -/
section
variable {prog : Program} {w : World} {A : Around} {E : Value → Shared → Prop} {s : Shared}
end
section
variable {X : Cx}
end
end FF
namespace FF
open PySem PySem.Spec PyProof.Rows L2
variable [LT]
/-! ### rows that lay a tie, as the program looks at them -/
end FF
namespace FF
open PySem PySem.Spec PyProof.Rows L2
variable [LT]
/-! ### rooms of all tight lots -/
section
variable {ts : List (Int × Int)} {n k : Int} {ws : List V} {ps : List (Int × Int)} {lots lots' : List (List Int)} {rows rows' : List ((Int × Int) × List (Int × Int))}
end
/-! ### rooms as data -/
end FF
namespace FF
open PySem PySem.Spec PyProof.Rows L2
variable [LT]
/-! ### layings that are known to the object -/
theorem TF.kx {S : Addr → Prop} {H H' : Hp} {a : Addr} {xs : List V} (h : TF H a xs) (k : Kx S H H') (n : ¬ S a) : TF H' a xs := by
  obtain ⟨o, e, d⟩ := h
  exact ⟨o, k.at_ a _ e (fun _ z => nomatch z) n, d⟩
theorem TF.ne {H : Hp} {a b : Addr} {xs : List V} {u : HO} (h : TF H a xs) (e : H b = some u) (n : ∀ o ys, u ≠ .frz o (.tup ys)) : a ≠ b := fun z => by
  obtain ⟨o, e1, _⟩ := h
  rw [z, e] at e1
  exact n _ _ (Option.some.inj e1)
end FF
namespace FF
open PySem PySem.Spec PyProof.Rows L2
variable [LT]
/-! ### how many ties one forest more lays -/
end FF
namespace FF
open PySem PySem.Spec PyProof.Rows L2
variable [LT]
/-! ### things looked into to any depth -/
/-! ### rooms of any thing -/
end FF
namespace FF
open PySem PySem.Spec PyProof.Rows L2
variable [LT]
/-! ### papers of rooms, of any thing -/
end FF
namespace FF
open PySem PySem.Spec PyProof.Rows L2
variable [LT]
/-! ### rows of things looked into five deep -/
end FF
namespace FF
open PySem PySem.Spec PyProof.Rows L2
variable [LT]
/-! ### the answer about a paper of rooms stays -/
end FF
namespace FF
open PySem PySem.Spec PyProof.Rows L2
variable [LT]
/-! ### tables of defs with a lambda -/
def LTabs (lt : List (Addr × Str)) (H : Hp) : Prop := ∀ p ∈ lt, LamX.TabS H p.1 p.2
/-- what is told of the list of such tables -/
structure LtOk (lt : List (Addr × Str)) : Prop where
  lam : ∀ p ∈ lt, LT.lam p.1 = true
  one : ∀ p ∈ lt, ∀ q ∈ lt, p.1 = q.1 → p.2 = q.2
theorem LTabs.kx {lt : List (Addr × Str)} (ok : LtOk lt) {S : Addr → Prop} {H H' : Hp} (h : LTabs lt H) (k : Kx S H H') (hS : ∀ b, S b → (∀ ps, H b ≠ some (.tbl ps)) ∧ ∀ c q, H b ≠ some (LamX.CodeO c q)) : LTabs lt H' := fun p hp => by
  obtain ⟨ps, e1, e2, e3⟩ := h p hp
  refine ⟨ps, k.lam _ ps (ok.lam p hp) (fun z => (hS _ z).1 ps e1) e1, e2, fun pos cv hc => ?_⟩
  obtain ⟨c, g1, g2⟩ := e3 pos cv hc
  exact ⟨c, g1, k.at_ c _ g2 LamX.codeO_ne fun z => (hS _ z).2 c _ g2⟩
theorem LTabs.ke {lt : List (Addr × Str)} (ok : LtOk lt) {H H' : Hp} (h : LTabs lt H) (k : Ke H H') : LTabs lt H' := h.kx ok k fun _ z => z.elim
theorem LTabs.at_lst {lt : List (Addr × Str)} (ok : LtOk lt) {p : Addr} {xs : List V} {H H' : Hp} (h : LTabs lt H) (k : Kx (fun b => b = p) H H') (hp : H p = some (.lst xs)) : LTabs lt H' := h.kx ok k fun b z => by
  rw [z]
  exact ⟨fun ps e => (by rw [hp] at e; cases e), fun c q e => (by rw [hp] at e; unfold LamX.CodeO at e; cases e)⟩
theorem LTabs.dk {lt : List (Addr × Str)} (ok : LtOk lt) {p : Addr} {H H' : Hp} (h : LTabs lt H) (k : Dk p H H') (d : Deck H p) : LTabs lt H' := by
  obtain ⟨ds, e, _⟩ := d
  exact h.at_lst ok k.k e
/-- what the making of a lambda, or a call of a def that makes one, leaves as it was: all but tables of such -/
abbrev Kl (lt : List (Addr × Str)) := Kx fun b => ∃ p ∈ lt, p.1 = b
theorem Kl.not {lt : List (Addr × Str)} {H : Hp} (h : LTabs lt H) {b : Addr} {o : HO} (e : H b = some o) (n : ∀ ps, o ≠ .tbl ps) : ¬ ∃ p ∈ lt, p.1 = b := fun ⟨p, hp, z⟩ => by
  obtain ⟨ps, g, _⟩ := h p hp
  rw [z, e] at g
  exact n ps (Option.some.inj g)
theorem Kl.at' {lt : List (Addr × Str)} {H H' : Hp} (k : Kl lt H H') (h : LTabs lt H) {b : Addr} {o : HO} (e : H b = some o) (n : ∀ ps, o ≠ .tbl ps) : H' b = some o := k.at_ b o e n (Kl.not h e n)
theorem Kl.lst' {lt : List (Addr × Str)} {H H' : Hp} (k : Kl lt H H') (h : LTabs lt H) {q : Addr} {xs : List V} (e : H q = some (.lst xs)) : H' q = some (.lst xs) := k.at' h e fun _ z => nomatch z
theorem Kl.deck {lt : List (Addr × Str)} {H H' : Hp} {p : Addr} (k : Kl lt H H') (h : LTabs lt H) (d : Deck H p) : Deck H' p := by
  obtain ⟨ds, e, g⟩ := d
  exact ⟨ds, k.lst' h e, g⟩
theorem Ke.kl {lt : List (Addr × Str)} {H H' : Hp} (k : Ke H H') : Kl lt H H' := k.to
section
variable {X : Cx} {pins : List (Addr × Obj)} {σ : L2.St} {H : Hp} {s : Shared}
end
end FF
namespace FF
open PySem PySem.Spec PyProof.Rows L2
variable [LT]
/-! ### a lambda of one parameter: its names, its call -/
section
variable {X : Cx} {pins : List (Addr × Obj)} {σ : L2.St} {H : Hp} {s : Shared}
end
end FF
namespace FF
open PySem PySem.Spec PyProof.Rows L2
variable [LT]
/-! ### sorted(.., key=a lambda) -/
section
variable {prog : Program} {w : World} {A : Around} {E : Value → Shared → Prop}
end
section
variable {X : Cx} {pins : List (Addr × Obj)} {σ : L2.St} {H : Hp} {s : Shared}
end
end FF
namespace FF
open PySem PySem.Spec PyProof.Rows L2
variable [LT]
/-! ### sorted(.., key=a lambda): the rules -/
section
variable {X : Cx} {pins : List (Addr × Obj)} {σ : L2.St} {H : Hp} {s : Shared}
end
end FF
namespace FF
open PySem PySem.Spec PyProof.Rows L2
variable [LT]
/-! ### sorted(list, key=a lambda), sorted(range(..), key=a lambda) -/
section
variable {X : Cx} {lt : List (Addr × Str)} {c P : Addr} {N : List Str} {src : List Nat} {p : Str} {scope : Scope} {params : Arguments} {body e : Expr} {k : Nat} {te tb : TE} {p1 lpos kpos pos : Pos}
end
end FF
namespace FF
open PySem PySem.Spec PyProof.Rows L2
variable [LT]
/-! ### ties in the order of cheapness, laid one after the other -/
def prI (ps : List Int) (i : Nat) : Int := ps.getD i 0
/-- i is cheaper than j -/
def chB (ps : List Int) (i j : Nat) : Prop := prI ps i < prI ps j ∨ (prI ps i = prI ps j ∧ i < j)
instance (ps : List Int) (i j : Nat) : Decidable (chB ps i j) := by unfold chB; exact inferInstance
/-! the ties of numbers, those laid among them -/
def tsN (ts : List (Int × Int)) (l : List Nat) : List (Int × Int) := l.map fun i => ts.getD i (0, 0)
def ldN (ws : List V) (l : List Nat) : List Nat := l.filter fun i => !decide (ws.getD i .non = V.non)
theorem laidT_tsN : ∀ {ts : List (Int × Int)} {ws : List V}, ws.length = ts.length → laidT ts ws = tsN ts (ldN ws (List.range ts.length)) := by
  intro ts ws hl
  have h := pick_laid hl ts.length (Nat.le_refl _)
  rw [List.take_length, List.take_of_length_le (by omega)] at h
  rw [← h]
  unfold pick laidM tsN ldN upTo
  rw [Int.toNat_natCast, List.filter_map, List.map_map]
  rfl
theorem tsN_perm {ts : List (Int × Int)} {l m : List Nat} (h : l.Perm m) : (tsN ts l).Perm (tsN ts m) := h.map _
/-- no lot has more laid ties within than its forests hold -/
theorem LayK.most {ts : List (Int × Int)} {k : Int} {ws : List V} (hL : LayK ts k ws) (hk : 0 ≤ k) {ls : List Int} (hn : ls.Nodup) (hne : ls ≠ []) : (inside ls (laidT ts ws) : Int) ≤ k * ((ls.length : Int) - 1) := by
  have e := inside_laid ls hL.len hL.each
  rw [e]
  have hm := sum_most (s := (ls.length : Int) - 1) (g := fun f => (inside ls (layerOf ts ws f) : Int)) (l := upTo k) fun f _ => by
    have := inside_forest (hL.tree f) hn hne
    show (inside ls (layerOf ts ws f) : Int) ≤ _
    omega
  have hl : ((upTo k).length : Int) = k := by rw [upTo_length]; omega
  rw [hl] at hm
  exact hm.1
/-! the law's own: each tie, in the order, that can be laid with those taken ahead -/
end FF
namespace FF
open PySem PySem.Spec PyProof.Rows L2
variable [LT]
/-! ### (p, i) < (q, j), (p, i) > (q, j) -/
end FF
namespace FF
open PySem PySem.Spec PyProof.Rows L2
variable [LT]
/-! ### papers of cheapest ties, of any thing -/
end FF
namespace FF
open PySem PySem.Spec PyProof.Rows L2
variable [LT]
/-! ### no others that can be laid are more -/
theorem lay_tsN {ts : List (Int × Int)} {ws : List V} (h : ws.length = ts.length) (f : Int) : layerOf ts ws f = tsN ts ((List.range ts.length).filter fun i => decide (ws.getD i .non = V.int f)) := by
  unfold layerOf tsN
  have key : ∀ m, m ≤ ts.length → (((ts.take m).zip (ws.take m)).filter fun p => decide (p.2 = V.int f)).map Prod.fst = ((List.range m).filter fun i => decide (ws.getD i .non = V.int f)).map fun i => ts.getD i (0, 0) := by
    intro m
    induction m with
    | zero => exact fun _ => rfl
    | succ m ih =>
      intro hm
      have h1 : ts[m]? = some (ts.getD m (0, 0)) := by rw [List.getD_eq_getElem?_getD, List.getElem?_eq_getElem (by omega)]; rfl
      have h2 : ws[m]? = some (ws.getD m .non) := by rw [List.getD_eq_getElem?_getD, List.getElem?_eq_getElem (by omega)]; rfl
      rw [take_next h1, take_next h2, List.zip_append (by rw [List.length_take, List.length_take]; omega), List.filter_append, List.map_append, ih (by omega), List.range_succ, List.filter_append, List.map_append]
      congr 1
      show (List.filter _ [(ts.getD m (0, 0), ws.getD m .non)]).map Prod.fst = _
      rw [List.filter_cons, List.filter_cons]
      dsimp only
      split <;> rfl
  have := key ts.length (Nat.le_refl _)
  rw [List.take_length, List.take_of_length_le (by omega)] at this
  exact this
theorem getD_map_pre {α : Type} (pre : List Nat) (g : Nat → α) (d : α) (i : Nat) (hi : i < pre.length) : (pre.map g).getD i d = g (pre.getD i 0) := by
  rw [List.getD_eq_getElem?_getD, List.getElem?_map, List.getElem?_eq_getElem hi, List.getD_eq_getElem?_getD, List.getElem?_eq_getElem hi]
  rfl
theorem range_getD (pre : List Nat) : (List.range pre.length).map (fun i => pre.getD i 0) = pre := by
  refine List.ext_getElem? fun i => ?_
  rw [List.getElem?_map]
  by_cases h : i < pre.length
  · rw [List.getElem?_range h, List.getElem?_eq_getElem h]
    show some (pre.getD i 0) = _
    rw [List.getD_eq_getElem?_getD, List.getElem?_eq_getElem h]
    rfl
  · rw [List.getElem?_eq_none (by rw [List.length_range]; omega), List.getElem?_eq_none (by omega)]
    rfl
/-- the layer of picked ties -/
theorem lay_pre {ts : List (Int × Int)} {ws : List V} (pre : List Nat) (f : Int) : layerOf (tsN ts pre) (pre.map fun i => ws.getD i .non) f = tsN ts (pre.filter fun i => decide (ws.getD i .non = V.int f)) := by
  have hl : (pre.map fun i => ws.getD i .non).length = (tsN ts pre).length := by unfold tsN; rw [List.length_map, List.length_map]
  rw [lay_tsN hl]
  have e : (tsN ts pre).length = pre.length := by unfold tsN; rw [List.length_map]
  rw [e]
  conv => rhs; rw [← range_getD pre]
  unfold tsN
  rw [List.filter_map, List.map_map]
  have e1 : (List.range pre.length).filter (fun i => decide ((pre.map fun i => ws.getD i .non).getD i .non = V.int f)) = (List.range pre.length).filter ((fun i => decide (ws.getD i .non = V.int f)) ∘ fun i => pre.getD i 0) := List.filter_congr fun i hi => by
    rw [getD_map_pre pre _ _ i (List.mem_range.mp hi)]
    rfl
  rw [e1]
  refine List.map_congr_left fun i hi => ?_
  exact getD_map_pre pre (fun i => ts.getD i (0, 0)) _ i (List.mem_range.mp (List.mem_filter.mp hi).1)
theorem sub_of {l m : List Nat} (hl : l.Nodup) (hm : m.Nodup) (h : ∀ x ∈ l, x ∈ m) : ∃ l', l.Perm l' ∧ l'.Sublist m := by
  refine ⟨m.filter fun x => decide (x ∈ l), (List.perm_ext_iff_of_nodup hl (hm.filter _)).mpr fun x => ?_, List.filter_sublist⟩
  rw [List.mem_filter, decide_eq_true_eq]
  exact ⟨fun z => ⟨h x z, z⟩, fun z => z.2⟩
theorem LayK.pre {ts : List (Int × Int)} {k : Int} {ws : List V} (hL : LayK ts k ws) {pre : List Nat} (nd : pre.Nodup) (hd : ∀ i ∈ pre, i < ts.length) : LayK (tsN ts pre) k (pre.map fun i => ws.getD i .non) := by
  have hwl := hL.len
  refine ⟨by unfold tsN; rw [List.length_map, List.length_map], fun x hx => ?_, fun f => ?_⟩
  · obtain ⟨i, hi, rfl⟩ := List.mem_map.mp hx
    have il : i < ws.length := by have := hd i hi; omega
    have : ws.getD i .non ∈ ws := by
      rw [List.getD_eq_getElem?_getD, List.getElem?_eq_getElem il]
      exact List.getElem_mem il
    exact hL.each _ this
  · rw [lay_pre]
    obtain ⟨l', hp, hs⟩ := sub_of (nd.filter fun i => decide (ws.getD i .non = V.int f)) (List.nodup_range.filter fun i => decide (ws.getD i .non = V.int f)) (m := (List.range ts.length).filter fun i => decide (ws.getD i .non = V.int f)) fun x hx => by
      obtain ⟨h1, h2⟩ := List.mem_filter.mp hx
      exact List.mem_filter.mpr ⟨List.mem_range.mpr (hd x h1), h2⟩
    rw [ringlessF_perm (tsN_perm hp)]
    refine ringlessF_sub (hs.map _) ?_
    have := hL.tree f
    rw [lay_tsN hwl] at this
    exact this
end FF
namespace FF
open PySem PySem.Spec PyProof.Rows L2
variable [LT]
/-! ### none dearer -/
end FF
namespace FF
open PySem PySem.Spec PyProof.Rows L2
variable [LT]
/-! ### the told paper of cheapest ties is let by -/
end FF
namespace FF
open PySem PySem.Spec PyProof.Rows L2
variable [LT]
/-! ### numbers sorted -/
end FF
namespace FF
open PySem PySem.Spec PyProof.Rows L2
variable [LT]
/-! ### ties in another order: the same prices are laid -/
theorem LayK.can {n : Nat} {ts : List (Int × Int)} {k : Int} {ws : List V} (hL : LayK ts k ws) (hk : 0 ≤ k) : canF n (tsN ts (ldN ws (List.range ts.length))) k = true := canF_iff.mpr fun ls hls => by
  rw [← laidT_tsN hL.len]
  exact hL.most hk (hls.up.imp fun h => Int.ne_of_lt h) hls.ne
end FF
namespace FF
open PySem PySem.Spec PyProof.Rows L2
variable [LT]
/-! ### str of data: asked where no repr is under way -/
def rStrD (K : PySem.W.Frag) : List V → Hp → VK → Prop := fun vs H Q => ∃ (a : Addr) (d : PyData), vs = [.ref a] ∧ Dp K H (.ref a) d ∧ d.showable = true ∧ d.hasDict = false ∧ d.depth ≤ 60 ∧ d.shown.length ≤ sizeLine ∧ Q (.str d.shown) H
theorem cr_strD {X : Cx} {K : PySem.W.Frag} (hg : X.A.guards = some []) (hu : X.A.units + 64 < cLine) (hK : X.K = K := by rfl) : CallR X (.type "str") (rStrD K) := by
  subst hK
  intro pins s σ H vs us Q I r h
  obtain ⟨a, d, rfl, hd, h1, h2, h3, h4, q⟩ := h
  obtain ⟨u, rfl, ru⟩ := vals1 r
  obtain rfl : u = Value.ref a := ru
  obtain ⟨as, r1⟩ := Dp.reads I d _ _ hd rfl
  exact str_of_reads r1 h1 (PyData.noDict_hsm h2) hg (by omega) (fun _ _ e => e) (fun h' u tk hk => ⟨.str d.shown, H, I.kept hk, ⟨u, rfl⟩, q⟩) h4
/-! a def that is right where no repr is under way -/
structure FnOkG (P : Program) (w : World) (K : PySem.W.Frag) (mg : Str → Option Value) (base : Heap) (CX : CXT) (k : Nat) (f : Addr) (fd : FuncData) (ps : List Str) (sp : Sp) : Prop where
  few : ∀ vs H Q E, sp vs H Q E → vs.length = ps.length
  go : ∀ {A : Around} (outer : List Env) (s : Shared) (H : Hp) (args : Args) (us : List Value) (vs : List V) (Q : VK) (E : XK), A.guards = some [] → Room k A → Env0 P w K mg base A outer s H → BindsTo s fd args (ps.zip us) → Vals vs us → sp vs H Q E →
    codeAny (model P w) A (.call (.ref f) args) (CR CX outer P w H s Q E) s
theorem DefAt.okG {P : Program} {w : World} {K : PySem.W.Frag} {mg : Str → Option Value} {base : Heap} {x : Str} {st : Stmt} {f : Addr} {fd : FuncData} {N ps : List Str} {k : Nat} {sp : Sp} (D : DefAt K mg x st ps f fd) (S : FnScope N ps (defScope st)) (len : ∀ vs H Q E, sp vs H Q E → vs.length = ps.length)
    (hbody : ∀ (A : Around) (outer : List Env) (s : Shared) (H : Hp) (vs : List V) (Q : VK) (E : XK), A.guards = some [] → Room k (A.deeper (envOfC x (defScope st) s.heap.objs.size f fd.code)) → sp vs H Q E →
      ∃ t, PSs (cxOf CX0 P w K mg base N x (defScope st) f fd.code A outer s H E).nox (defBody st) t ∧ t { nx := fun _ H' => Q .non H', rt := Q } (start N vs) H) : FnOkG P w K mg base CX0 (k + 1) f fd ps sp := by
  obtain ⟨oc, od, dV, kV, doc, pm, an, cdv, ct, osl, rfl, lk, hcd, _, _⟩ := D.F.ex
  refine ⟨len, fun {A} outer s H args us vs Q E hgd hr e0 hb rv hsp => ?_⟩
  have old : ∀ b o, base.get? b = some o → s.heap.get? b = some o := fun b o e => (e0.bs b o e).1
  obtain ⟨t, ht, ask⟩ := hbody A outer s H vs Q E hgd (hr.deeper _) hsp
  have cells : ∀ y ∈ ps.zip us, (defScope st).names.lookup y.1 = some .local ∨ ((defScope st).names.lookup y.1 = some .cell ∧ ((cellsFrom (s.heap.objs.size + 1) (defScope st).names []).lookup y.1).isSome = true) := fun y hy =>
    (S.par y.1 (List.of_mem_zip (a := y.1) (b := y.2) hy).1).imp id fun z => ⟨z, PySem.W.cellsFrom_some _ _ _ (.inl z)⟩
  have kin := e0.mod.kin.keeps old
  refine codeAny_call_function hr.depth (kin _ _ lk) rfl S.co S.gen rfl (PySem.W.codeRec_of kin hcd) (hb _ _ _ _ (wpAny_newFunctionEnv_cells S.kind cells fun env he s1 into => ?_))
  subst he
  have I0 : Inv (cxOf CX0 P w K mg base N x (defScope st) f cdv A outer s H E) [] (start N vs) H s1 := inv_start S hr.hd e0 (len _ _ _ _ hsp) rv into
  refine ⟨(e0.mod.nolimit.keeps old).keeps into.toInCall.keep, codeAny_func (wpAny_mono (ht.nox.run [] s1 (start N vs) H _ I0 ask) (fun fl s' z => ?_) fun _ _ z => z)⟩
  match fl, z with
  | .ret _, ⟨v, _, H', J, ru, q⟩ => exact ⟨v, H', J.os, J.bare, J.base, J.hok, ru, q⟩
  | .next, ⟨_, H', J, q⟩ => exact ⟨.non, H', J.os, J.bare, J.base, J.hok, rfl, q⟩
  | .brk, ⟨_, _, _, q⟩ => exact q.elim
  | .cont, ⟨_, _, _, q⟩ => exact q.elim
end FF
namespace FF
open PySem PySem.Spec PyProof.Rows L2
variable [LT]
/-! ### the end of a law that asks str: it starts where no repr is under way -/
section
variable {K : PySem.W.Frag} {cs : List (Addr × Addr)} {a : Addr} {vs : List Value} {ns : List Int} {h : Heap}
open Classical in
/-- all that is tracked at a law's start: the tables, and the script's list unless it stands in the fragment -/
noncomputable def H0G (K : PySem.W.Frag) (cs : List (Addr × Addr)) (a : Addr) (vs : List Value) (ns : List Int) : Hp := fun b =>
  if (∃ p ∈ cs, p.2 = b) then some (.tbl #[]) else if b = a ∧ K.lookup a = none then some (.frz { cls := .type "list", data := .seq vs.toArray } (.lst (ns.map V.int))) else none
inductive H0Is (K : PySem.W.Frag) (cs : List (Addr × Addr)) (a : Addr) (vs : List Value) (ns : List Int) (b : Addr) : Prop
  | tab (p : Addr × Addr) (hp : p ∈ cs) (e : p.2 = b) (z : H0G K cs a vs ns b = some (.tbl #[]))
  | scr (n : ¬ ∃ p ∈ cs, p.2 = b) (e : b = a) (k : K.lookup a = none) (z : H0G K cs a vs ns b = some (.frz { cls := .type "list", data := .seq vs.toArray } (.lst (ns.map V.int))))
  | no (n : ¬ ∃ p ∈ cs, p.2 = b) (k : b = a → K.lookup a ≠ none) (z : H0G K cs a vs ns b = none)
theorem h0_is (K : PySem.W.Frag) (cs : List (Addr × Addr)) (a : Addr) (vs : List Value) (ns : List Int) (b : Addr) : H0Is K cs a vs ns b := by
  by_cases t : ∃ p ∈ cs, p.2 = b
  · obtain ⟨p, hp, e⟩ := id t
    exact .tab p hp e (if_pos t)
  · by_cases q : b = a ∧ K.lookup a = none
    · exact .scr t q.1 q.2 ((if_neg t).trans (if_pos q))
    · exact .no t (fun e z => q ⟨e, z⟩) ((if_neg t).trans (if_neg q))
theorem h0_free {b : Addr} {o : Obj} (hT : ∀ p ∈ cs, h.get? p.2 = some { cls := .none, data := .fields #[] }) (ha : h.get? a = some { cls := .type "list", data := .seq vs.toArray }) (e : h.get? b = some o) (n1 : ∀ xs m, o.data ≠ .seq xs m) (n2 : o.data ≠ .fields #[]) : H0G K cs a vs ns b = none := by
  rcases h0_is K cs a vs ns b with ⟨p, hp, pe, _⟩ | ⟨_, rfl, _, _⟩ | ⟨_, _, z⟩
  · have := hT p hp
    rw [pe, e] at this
    cases this
    exact (n2 rfl).elim
  · rw [ha] at e
    cases e
    exact (n1 _ _ rfl).elim
  · exact z
theorem h0_ns {b : Addr} {m : Str → Option Value} (hT : ∀ p ∈ cs, h.get? p.2 = some { cls := .none, data := .fields #[] }) (ha : h.get? a = some { cls := .type "list", data := .seq vs.toArray }) (n : h.Ns b m) : (hidT h (H0G K cs a vs ns)).Ns b m := by
  obtain ⟨o, es, ep, e, d, r⟩ := n
  exact ⟨o, es, ep, hidT_get e (h0_free hT ha e (fun _ _ z => by rw [d] at z; cases z) fun z => by rw [d] at z; cases z), d, r⟩
theorem h0_in (KX : K.In h) (nT : ∀ p ∈ cs, K.lookup p.2 = none) : K.In (hidT h (H0G K cs a vs ns)) := fun b o e => hidT_get (KX b o e) (by
  rcases h0_is K cs a vs ns b with ⟨p, hp, rfl, _⟩ | ⟨_, rfl, k, _⟩ | ⟨_, _, z⟩
  · rw [nT p hp] at e
    cases e
  · rw [k] at e
    cases e
  · exact z)
theorem h0_tab {mg : Str → Option Value} (hT : ∀ p ∈ cs, h.get? p.2 = some { cls := .none, data := .fields #[] }) (ha : h.get? a = some { cls := .type "list", data := .seq vs.toArray }) (hns : h.Ns mainGlobals mg) (C : ∀ p ∈ cs, PySem.W.CodeHd h p.1 p.2)
    (hbm : ∃ (bm : Addr) (ob : Obj), mg "__builtins__" = some (.ref bm) ∧ bm ≠ builtinsNs ∧ h.get? bm = some ob ∧ ob.cls = .type "module" ∧ ob.dict = some builtinsNs ∧ ob.data = .plain) : ∀ p ∈ cs, LamX.TabB (hidT h (H0G K cs a vs ns)) mg p.1 p.2 := fun p hp => by
  have tp := hT p hp
  obtain ⟨gd, es, ep, ge, gdd, _⟩ := hns
  obtain ⟨bm, ob, m1, m2, m3, m4, m5, m6⟩ := hbm
  obtain ⟨o, us, file, tf, flags, tg, inF, text, tt, c1, c2, c3, c4, rest⟩ := C p hp
  have apart : ∀ {b : Addr} {ob : Obj}, h.get? b = some ob → (∀ x, ob.data ≠ .fields x) → b ≠ p.2 := fun {b ob} e n z => by
    rw [z, tp] at e
    cases e
    exact n _ rfl
  refine ⟨⟨o, us, file, tf, flags, tg, inF, text, tt, hidT_get c1 (h0_free hT ha c1 (fun _ _ z => by rw [c3] at z; cases z) fun z => ?_), c2, c3, c4, rest⟩, ⟨bm, ob, m1, m2, fun z => ?_, apart m3 (fun x z => by rw [m6] at z; cases z), hidT_get m3 (h0_free hT ha m3 (fun _ _ z => by rw [m6] at z; cases z) fun z => by rw [m6] at z; cases z), m4, m5, m6⟩, apart ge fun x z => by rw [gdd] at z; cases z⟩
  · rw [c3] at z
    cases z
    simp at c4
  · rw [z, ge] at m3
    cases m3
    rw [gdd] at m6
    cases m6
theorem law_runG {P : Program} {w : World} {mg mb : Str → Option Value} {k : Nat} {fa : Addr} {fd : FuncData} {x : Str} {sp : Sp} {s₁ : Shared} (KX : K.In s₁.heap) (hns : s₁.heap.Ns mainGlobals mg) (hb : s₁.heap.Ns builtinsNs mb) (hbb : ∀ x : Str, x ≠ "__name__" → mb x = bootBuiltins x) (hlim : s₁.heap.NoLimit) (hg : s₁.gens = #[])
    (hT : ∀ p ∈ cs, s₁.heap.get? p.2 = some { cls := .none, data := .fields #[] }) (nT : ∀ p ∈ cs, K.lookup p.2 = none) (C : ∀ p ∈ cs, PySem.W.CodeHd s₁.heap p.1 p.2)
    (hbm : ∃ (bm : Addr) (ob : Obj), mg "__builtins__" = some (.ref bm) ∧ bm ≠ builtinsNs ∧ s₁.heap.get? bm = some ob ∧ ob.cls = .type "module" ∧ ob.dict = some builtinsNs ∧ ob.data = .plain)
    (ha : s₁.heap.get? a = some { cls := .type "list", data := .seq vs.toArray }) (hi : IntsAre vs ns) (hl : ns.length ≤ sizeLine) (hr : Room k callerA)
    (F : ∀ base : Heap, K.In base → base.Ns mainGlobals mg → (∀ p ∈ cs, LamX.TabB base mg p.1 p.2) → FnOkG P w K mg base CX0 k fa fd [x] sp) (hbind : ∀ (s : Shared) (u : Value), BindsTo s fd ⟨[u], []⟩ [(x, u)])
    (hsp : ∀ H : Hp, (∀ p ∈ cs, H p.2 = some (.tbl #[])) → SqL K H a (ns.map V.int) → sp [.ref a] H (fun v _ => v = .bl true) fun _ _ _ => False) :
    codeAny (model P w) callerA (.call (.ref fa) ⟨[.ref a], []⟩) (fun r s' => r = .ok (.ret (.bool true)) ∧ OldK s₁.heap s'.heap ∧ s'.os = s₁.os ∧ AllBare s'.gens) s₁ := by
  have rv := vals_ints hi
  have lenV := hi.length
  have notT : ¬ ∃ p ∈ cs, p.2 = a := fun ⟨p, hp, e⟩ => by
    have t := hT p hp
    rw [e, ha] at t
    have : Data.seq vs.toArray _ = Data.fields #[] := congrArg Obj.data (Option.some.inj t)
    cases this
  obtain ⟨H, hH⟩ : ∃ H, H = H0G K cs a vs ns := ⟨_, rfl⟩
  have tabs : ∀ p ∈ cs, H p.2 = some (.tbl #[]) := fun p hp => by
    rw [hH]
    rcases h0_is K cs a vs ns p.2 with ⟨_, _, _, z⟩ | ⟨n, _, _, _⟩ | ⟨n, _, _⟩
    · exact z
    · exact (n ⟨p, hp, rfl⟩).elim
    · exact (n ⟨p, hp, rfl⟩).elim
  have script : SqL K H a (ns.map V.int) := by
    rw [hH]
    rcases h0_is K cs a vs ns a with ⟨p, hp, e, _⟩ | ⟨_, _, _, z⟩ | ⟨_, k, _⟩
    · exact (notT ⟨p, hp, e⟩).elim
    · exact .inl (.inr ⟨_, z⟩)
    · cases q : K.lookup a with
      | none => exact (k rfl q).elim
      | some o =>
        have e := KX a o q
        rw [ha] at e
        cases e
        exact .inr ⟨_, vs.toArray, _, q, rfl, rfl, rfl, by rw [List.size_toArray, lenV]; exact hl, by simpa using rv⟩
  have hok : HOk P w H s₁.heap := fun b u z => by
    rw [hH] at z
    rcases h0_is K cs a vs ns b with ⟨p, hp, rfl, y⟩ | ⟨_, rfl, _, y⟩ | ⟨_, _, y⟩
    · rw [y] at z
      cases z
      exact hT p hp
    · rw [y] at z
      cases z
      exact ⟨ha, by rw [List.length_map]; exact hl, vs, _, rv, ha⟩
    · rw [y] at z
      cases z
  have KB : K.In (hidT s₁.heap H) := by rw [hH]; exact h0_in KX nT
  have nsB : ∀ {b : Addr} {m : Str → Option Value}, s₁.heap.Ns b m → (hidT s₁.heap H).Ns b m := fun n => by rw [hH]; exact h0_ns hT ha n
  have TB : ∀ p ∈ cs, LamX.TabB (hidT s₁.heap H) mg p.1 p.2 := by rw [hH]; exact h0_tab hT ha hns C hbm
  obtain ⟨mc, l1, l2⟩ := hlim
  have e0 : Env0 P w K mg (hidT s₁.heap H) callerA [] s₁ H := ⟨rfl, ⟨KB, nsB hns, ⟨mb, nsB hb, hbb⟩, ⟨mc, nsB l1, l2⟩⟩, fun _ _ e => of_hidT e, Nat.le_of_eq (hidT_size _ _), trivial, fun _ z => (List.not_mem_nil z).elim, hok, .of_eq hg⟩
  have run := (F _ KB (nsB hns) TB).go (A := callerA) [] s₁ H ⟨[.ref a], []⟩ [.ref a] [.ref a] _ _ rfl hr e0 (hbind s₁ (.ref a)) (.cons rfl .nil) (hsp H tabs script)
  refine codeAny_mono run fun r s' z => ?_
  match r, z with
  | .error _, z => exact z.elim
  | .ok .next, z => exact z.elim
  | .ok .brk, z => exact z.elim
  | .ok .cont, z => exact z.elim
  | .ok (.ret u), z =>
    obtain ⟨v, H', os, bare, un, hok', ru, (rfl : v = .bl true)⟩ := z
    obtain rfl : u = Value.bool true := ru
    refine ⟨rfl, ⟨fun b o e => ?_, fun b o e => ?_⟩, os, bare⟩
    · rcases h0_is K cs a vs ns b with ⟨p, hp, rfl, y⟩ | ⟨_, rfl, _, y⟩ | ⟨_, _, y⟩
      · obtain ⟨more, t⟩ := un.tbls p.2 #[] (hH ▸ y)
        rw [hT p hp] at e
        cases e
        exact .inr (.inl ⟨((C p hp).tab (hT p hp)).isCodeTable, rfl, #[], more, rfl, by rw [Array.empty_append]; exact hok' p.2 _ t |> fun z => by rw [Array.empty_append] at z; exact z⟩)
      · obtain ⟨e1, _⟩ := hok' b _ (un.frzs b _ _ (hH ▸ y))
        rw [ha] at e
        cases e
        exact .inl e1
      · exact .inl (un.keep b o e (hH ▸ y) (fun q => (List.not_mem_nil q).elim) fun q => (List.not_mem_nil q).elim)
    · exact un.there b o e fun q => (List.not_mem_nil q).elim
end
/-- what is known of such a law -/
def LawAtG (l : PySem.W.OpenLaw) (w : World) (K : PySem.W.Frag) (k n : Nat) (x : Str) (mg : Str → Option Value) (fa : Addr) (h : Heap) : Prop :=
  ∃ (fd : FuncData) (cs : List (Addr × Addr)) (sp : Sp), (∀ p ∈ cs, h.get? p.2 = some { cls := .none, data := .fields #[] }) ∧ (∀ p ∈ cs, K.lookup p.2 = none) ∧ (∀ p ∈ cs, PySem.W.CodeHd h p.1 p.2) ∧ (∀ (s : Shared) (u : Value), BindsTo s fd ⟨[u], []⟩ [(x, u)]) ∧
    (∀ (H : Hp) (a : Addr) (ns : List Int), ns.length ≤ n → (∀ z ∈ ns, Builtin.Int.intBits z ≤ 1048576) → (∀ p ∈ cs, H p.2 = some (.tbl #[])) → SqL K H a (ns.map V.int) → sp [.ref a] H (fun v _ => v = .bl true) fun _ _ _ => False) ∧
    ∀ base : Heap, K.In base → base.Ns mainGlobals mg → (∀ p ∈ cs, LamX.TabB base mg p.1 p.2) → FnOkG l.prog w K mg base CX0 k fa fd [x] sp
theorem walk_ofG {l : PySem.W.OpenLaw} {n k : Nat} {q : Program} {loose : List Str} {XP : (Str → Option Value) → Heap → Prop} {YP : World → Heap → Prop} {d : DefRec} {x : Str} (hn : l.most = some n) (hn2 : n ≤ sizeLine) (hdf : d.params.defaults = []) (hr : Room k callerA)
    (F : ∀ (w : World) (mg : Str → Option Value) (fa : Addr) (h : Heap), YP w h → h.Ns mainGlobals mg → mg d.name = some (.ref fa) → ∃ K : PySem.W.Frag, K.In h ∧ LawAtG l w K k n x mg fa h) : PySem.W.WalkO q loose XP YP l.row.toRowW d [] (fun f vs => PySem.call f vs) :=
  Att.attach_callB hn hdf fun w s₀ s₁ mg mb fa o pm cd doc a vs ns G Y ho hd hcd hmg hobj hints hlen hbits hg => by
    obtain ⟨K, KX, fd, cs, sp, t1, t2, t3, bd, ask, ok⟩ := F w mg fa _ Y G.T.g hmg
    exact law_runG KX G.T.g G.T.b G.T.builtins G.T.nolimit hg t1 t2 t3 G.T.bmain hobj hints (Nat.le_trans hlen hn2) hr ok bd fun H z1 z2 => ask H a ns hlen hbits z1 z2
end FF
namespace FF
open PySem PySem.Spec PyProof.Rows L2
variable [LT]
/-! ### lots of any thing -/
end FF
namespace FF
open PySem PySem.Spec PyProof.Rows L2
variable [LT]
/-! ### data that str shows -/
structure ShS (e c : Nat) (d : PyData) : Prop where
  sh : d.showable = true
  hd : d.hasDict = false
  lv : d.leavesShort 13 = true
  dp : d.depth ≤ e
  bk : d.bulk ≤ c
theorem ShS.fits {e c : Nat} {d : PyData} (h : ShS e c d) (hc : c ≤ 1000000) : d.shown.length ≤ sizeLine := PyData.shown_fits_bulk (by decide) (by decide) h.lv (by have := h.bk; omega)
theorem ShS.up {e c e' c' : Nat} {d : PyData} (h : ShS e c d) (h1 : e ≤ e') (h2 : c ≤ c') : ShS e' c' d := ⟨h.sh, h.hd, h.lv, Nat.le_trans h.dp h1, Nat.le_trans h.bk h2⟩
theorem shS_int {i : Int} (h0 : 0 ≤ i) (h1 : i ≤ 1000000000) : ShS 0 0 (.int i) := by
  refine ⟨?_, rfl, ?_, Nat.le_refl _, Nat.le_refl _⟩
  · refine decide_eq_true ?_
    have h2 : i.natAbs < 2 ^ 30 := by omega
    by_cases z : i.natAbs = 0
    · rw [z]
      decide
    · have := (Nat.log2_lt z).mpr h2
      omega
  · refine decide_eq_true ?_
    exact toString_length_le h0 (k := 13) (by decide) (by omega)
structure ShA (e c : Nat) (ds : List PyData) : Prop where
  sh : PyData.showableAll ds = true
  hd : PyData.hasDictAll ds = false
  lv : PyData.leavesShortAll 13 ds = true
  dp : PyData.depthAll ds ≤ e
  bk : PyData.bulkAll ds ≤ c
theorem shA_nil {e : Nat} : ShA e 0 [] := ⟨rfl, rfl, rfl, Nat.zero_le _, Nat.le_refl _⟩
theorem ShA.cons {e c c' : Nat} {d : PyData} {ds : List PyData} (h : ShS e c d) (t : ShA e c' ds) : ShA e (c + 1 + c') (d :: ds) := by
  refine ⟨?_, ?_, ?_, ?_, ?_⟩
  · show (d.showable && PyData.showableAll ds) = true
    rw [h.sh, t.sh]
    rfl
  · show (d.hasDict || PyData.hasDictAll ds) = false
    rw [h.hd, t.hd]
    rfl
  · show (PyData.leavesShort 13 d && PyData.leavesShortAll 13 ds) = true
    rw [h.lv, t.lv]
    rfl
  · show max d.depth (PyData.depthAll ds) ≤ e
    exact Nat.max_le.mpr ⟨h.dp, t.dp⟩
  · show d.bulk + 1 + PyData.bulkAll ds ≤ _
    have := h.bk
    have := t.bk
    omega
theorem shA_of {e c : Nat} : ∀ {ds : List PyData}, (∀ d ∈ ds, ShS e c d) → ShA e (ds.length * (c + 1)) ds
  | [], _ => ⟨rfl, rfl, rfl, Nat.zero_le _, Nat.zero_le _⟩
  | d :: ds, h => by
    have a := ShA.cons (h d List.mem_cons_self) (shA_of fun x hx => h x (List.mem_cons_of_mem _ hx))
    refine ⟨a.sh, a.hd, a.lv, a.dp, Nat.le_trans a.bk ?_⟩
    rw [List.length_cons, Nat.add_mul]
    omega
theorem ShA.tup {e c : Nat} {ds : List PyData} (h : ShA e c ds) : ShS (e + 1) c (.tuple ds) := ⟨h.sh, h.hd, h.lv, Nat.succ_le_succ h.dp, h.bk⟩
theorem ShA.lst {e c : Nat} {ds : List PyData} (h : ShA e c ds) : ShS (e + 1) c (.list ds) := ⟨h.sh, h.hd, h.lv, Nat.succ_le_succ h.dp, h.bk⟩
theorem shS_web {n : Int} {ts : List (Int × Int)} (hn0 : 0 ≤ n) (hn : n ≤ 1000) (ok : TOk n ts) : ShS 3 (3 * ts.length + 2) (dWeb n ts) := by
  have e1 : ∀ d ∈ ts.map (fun e => PyData.tuple [.int e.1, .int e.2]), ShS 1 2 d := fun d hd => by
    obtain ⟨t, ht, rfl⟩ := List.mem_map.mp hd
    have := ok t ht
    exact (ShA.cons (shS_int (by omega) (by omega)) (ShA.cons (shS_int (by omega) (by omega)) (shA_nil (e := 0)))).tup
  have e2 := (shA_of e1).tup
  rw [List.length_map] at e2
  have e3 := (ShA.cons (shS_int hn0 (by omega) |>.up (Nat.zero_le 2) (Nat.le_refl 0)) (ShA.cons e2 (shA_nil (e := 2)))).tup
  exact e3.up (Nat.le_refl _) (by omega)
end FF
namespace FF
open PySem PySem.Spec PyProof.Rows L2
variable [LT]
/-! ### sums of prices; what cheapest_ties tells, as data -/
end FF
namespace FF
open PySem PySem.Spec PyProof.Rows L2
variable [LT]
/-! ### defs that are called within an except suite -/
section
open HotX L2H
end
theorem DefAt.okEN {P : Program} {w : World} {K : PySem.W.Frag} {mg : Str → Option Value} {base : Heap} {x : Str} {st : Stmt} {f : Addr} {fd : FuncData} {N ps : List Str} {k : Nat} {sp : Sp} (D : DefAt K mg x st ps f fd) (S : FnScope N ps (defScope st)) (len : ∀ vs H Q E, sp vs H Q E → vs.length = ps.length)
    (hbody : ∀ (A : Around) (outer : List Env) (s : Shared) (H : Hp) (vs : List V) (Q : VK) (E : XK), Room k (A.deeper (envOfC x (defScope st) s.heap.objs.size f fd.code)) → sp vs H Q E →
      ∃ t, PSs (cxOf (L2N.CX P w) P w K mg base N x (defScope st) f fd.code A outer s H E) (defBody st) t ∧ t { nx := fun _ H' => Q .non H', rt := Q } (start N vs) H) : FnOk P w K mg base (L2N.CX P w) (k + 1) f fd ps sp := by
  obtain ⟨oc, od, dV, kV, doc, pm, an, cdv, ct, osl, rfl, lk, hcd, _, _⟩ := D.F.ex
  exact fn_of lk hcd S len hbody
end FF
namespace FF
open PySem PySem.Spec PyProof.Rows L2
variable [LT]
/-! ### stand-ins -/
end FF
namespace FF
open PySem PySem.Spec PyProof.Rows L2
variable [LT]
/-! ### the numbers without one -/
end FF
namespace FF
open PySem PySem.Spec PyProof.Rows L2
variable [LT]
/-! ### all stand-ins -/
end FF
namespace FF
open PySem PySem.Spec PyProof.Rows L2
variable [LT]
/-! ### a search that goes on and back (what it may still find, how long it goes) -/
end FF
namespace FF
open PySem PySem.Spec PyProof.Rows L2
variable [LT]
/-! ### dict(zip(xs, ys)) of two lists, the keys ints -/
section
variable {X : Cx}
end
end FF
namespace FF
open PySem PySem.Spec PyProof.Rows L2
variable [LT]
/-! ### papers made up: places turned, reasons picked -/
/-! the greedy, piece by piece -/
end FF
namespace FF
open PySem PySem.Spec PyProof.Rows L2
variable [LT]
/-! ### one of a list's things -/
end FF
namespace FF
open PySem PySem.Spec PyProof.Rows L2
variable [LT]
/-! ### tuple(reversed(xs)), xs a tuple -/
section
open RT PySem
variable {prog : Program} {w : World} {A : Around} {E : Value → Shared → Prop} {s : Shared}
end
section
open RT PySem
variable {X : Cx}
end
end FF
namespace FF
open PySem PySem.Spec PyProof.Rows L2
variable [LT]
/-! ### cheaper ties make trees in a reason's lot; the same ties at other prices -/
/-! the ring within the reason's lot -/
/-! three trees on all points -/
end FF
namespace FF
open PySem PySem.Spec PyProof.Rows L2
variable [LT]
/-! ### webs of which all is laid, two points, a ring -/
/-! two points -/
/-! a ring -/
end FF
namespace FF
open PySem PySem.Spec PyProof.Rows L2
variable [LT]
/-! ### what is told of a ring and of two points -/
end FF
namespace FF
open PySem PySem.Spec PyProof.Rows L2
variable [LT]
/-! ### t[i::m] of a tuple -/
section
variable {prog : Program} {w : World} {A : Around} {E : Value → Shared → Prop} {s : Shared}
end
section
variable {X : Cx}
end
end FF
namespace FF
open PySem PySem.Spec PyProof.Rows L2
variable [LT]
/-! ### fractions: thickness, strength, crowd -/
theorem reps_length {α : Type} (l : List α) : ∀ c : Nat, (List.replicate c l).flatten.length = c * l.length
  | 0 => by simp
  | c + 1 => by
    rw [List.replicate_succ, List.flatten_cons, List.length_append, reps_length l c, Nat.add_mul, Nat.one_mul, Nat.add_comm]
end FF
namespace FF
open PySem PySem.Spec PyProof.Rows L2
variable [LT]
/-! ### a match in the heap -/
end FF
namespace FF
open PySem PySem.Spec PyProof.Rows L2
variable [LT]
/-! ### trees that join all points, and the tie that bridges -/
/-! ### where the ties of a match are -/
end FF
namespace FF
open PySem PySem.Spec PyProof.Rows L2
variable [LT]
/-! ### a match is played -/
end FF
namespace FF
open PySem PySem.Spec PyProof.Rows L2
variable [LT]
/-! ### a match told exactly -/
/-! ### what was cut in turn -/
end FF
namespace FF
open PySem PySem.Spec PyProof.Rows L2
variable [LT]
/-! ### a generator expression with two fors: a turn, the frame, the protocol -/
/-- the same context under another stack of calls -/
theorem Inv.around {Z : Cx} {A : Around} {pins : List (Addr × Obj)} {σ : L2.St} {H : Hp} {s : Shared} (I : L2.Inv Z pins σ H s) (h1 : A.handled = none) (h2 : A.frames = some Z.stack) : L2.Inv { Z with A := A } pins σ H s :=
  ⟨⟨I.ok.mod, I.ok.kind, I.ok.glob, I.ok.blt, I.ok.above, I.ok.inj, I.ok.has, I.ok.cab, fun _ => h1, h2, I.ok.stk, I.ok.exf, I.ok.bs, I.ok.bsz, I.ok.noex, I.ok.exfs, I.ok.funs, I.ok.frf⟩, I.os, I.bare, I.base, I.loc, I.cell, I.free, I.freeC, I.pin, I.hok, I.len⟩
section
variable {α : Type}
end
end FF
namespace FF
open PySem PySem.Spec PyProof.Rows L2
variable [LT]
section
variable {α : Type}
end
end FF
namespace FF
open PySem PySem.Spec PyProof.Rows L2
variable [LT]
section
variable {α : Type}
end
end FF
namespace FF
open PySem PySem.Spec PyProof.Rows L2
variable [LT]
section
variable {M : Model} {A : Around} {E : Value → Shared → Prop} {s : Shared}
end
section
variable {X : Cx} {pins : List (Addr × Obj)} {σ : L2.St} {H : Hp} {s : Shared}
section
variable {α : Type} {elt tg iter tg1 iter1 : Expr} {scope : Scope} {gpos : Pos} {N : List Str} {src : List (Option Nat)} {J : It} {G : Hp} {it : Addr} {fp : List Addr} {tn : Nat → Heap → Prop} {code : Value} {s4 t : Shared} {ga : Addr} {g : Nat} {gg : TG} {wi1 : TI} {gg1 : TG} {te : TE}
end
end
end FF
namespace FF
open PySem PySem.Spec PyProof.Rows L2
variable [LT]
section
variable {X : Cx} {pins : List (Addr × Obj)} {σ : L2.St} {elt tg iter tg1 iter1 : Expr} {scope : Scope} {gpos : Pos} {N : List Str} {src : List (Option Nat)} {J : It} {G : Hp} {it : Addr} {fp : List Addr} {tn : Nat → Heap → Prop} {code : Value} {s4 t : Shared} {ga : Addr} {g : Nat} {gg : TG} {wi1 : TI} {gg1 : TG} {te : TE}
end
section
variable {X : Cx} {c P : Addr} {elt tg iter tg1 iter1 : Expr} {scope : Scope} {gpos p pos : Pos} {N : List Str} {src : List (Option Nat)} {wi : TI} {g : TG} {wi1 : TI} {g1 : TG} {te : TE} {k : Nat} {vs vs1 : List Nat}
end
end FF
namespace FF
open PySem PySem.Spec PyProof.Rows L2
variable [LT]
/-! ### what lots join -/
end FF
namespace FF
open PySem PySem.Spec PyProof.Rows L2
variable [LT]
/-! ### tight lots with a point in common, the greatest tight lots -/
theorem four_len (p q : Int → Bool) : ∀ L : List Int, (L.filter fun x => p x || q x).length + (L.filter fun x => p x && q x).length = (L.filter p).length + (L.filter q).length
  | [] => rfl
  | x :: L => by
    have ih := four_len p q L
    rw [List.filter_cons, List.filter_cons, List.filter_cons, List.filter_cons]
    cases p x <;> cases q x <;> simp <;> omega
def orL (n : Int) (A B : List Int) : List Int := (upTo n).filter fun x => decide (x ∈ A) || decide (x ∈ B)
def andL (n : Int) (A B : List Int) : List Int := (upTo n).filter fun x => decide (x ∈ A) && decide (x ∈ B)
theorem Lot.filt {n : Int} {A : List Int} (h : Lot n A) : (upTo n).filter (fun x => decide (x ∈ A)) = A := sorted_one ((upTo_up n).filter _) h.up fun x => by
  rw [List.mem_filter, decide_eq_true_eq]
  exact ⟨fun z => z.2, fun z => ⟨upTo_mem.mpr (h.ok x z), z⟩⟩
theorem mem_orL {n : Int} {A B : List Int} (ha : Lot n A) (hb : Lot n B) {x : Int} : x ∈ orL n A B ↔ x ∈ A ∨ x ∈ B := by
  unfold orL
  rw [List.mem_filter, Bool.or_eq_true, decide_eq_true_eq, decide_eq_true_eq]
  exact ⟨fun z => z.2, fun z => ⟨upTo_mem.mpr (z.elim (ha.ok x) (hb.ok x)), z⟩⟩
theorem mem_andL {n : Int} {A B : List Int} (ha : Lot n A) {x : Int} : x ∈ andL n A B ↔ x ∈ A ∧ x ∈ B := by
  unfold andL
  rw [List.mem_filter, Bool.and_eq_true, decide_eq_true_eq, decide_eq_true_eq]
  exact ⟨fun z => z.2, fun z => ⟨upTo_mem.mpr (ha.ok x z.1), z⟩⟩
theorem or_and_inside {n : Int} {A B : List Int} (ha : Lot n A) (hb : Lot n B) : ∀ L : List (Int × Int), inside A L + inside B L ≤ inside (orL n A B) L + inside (andL n A B) L
  | [] => Nat.le_refl _
  | t :: L => by
    have ih := or_and_inside ha hb L
    rw [inside_cons, inside_cons, inside_cons, inside_cons]
    have e1 : decide (t.1 ∈ orL n A B) = (decide (t.1 ∈ A) || decide (t.1 ∈ B)) := by rw [← Bool.decide_or]; exact decide_eq_decide.mpr (mem_orL ha hb)
    have e2 : decide (t.2 ∈ orL n A B) = (decide (t.2 ∈ A) || decide (t.2 ∈ B)) := by rw [← Bool.decide_or]; exact decide_eq_decide.mpr (mem_orL ha hb)
    have e3 : decide (t.1 ∈ andL n A B) = (decide (t.1 ∈ A) && decide (t.1 ∈ B)) := by rw [← Bool.decide_and]; exact decide_eq_decide.mpr (mem_andL ha)
    have e4 : decide (t.2 ∈ andL n A B) = (decide (t.2 ∈ A) && decide (t.2 ∈ B)) := by rw [← Bool.decide_and]; exact decide_eq_decide.mpr (mem_andL ha)
    rw [e1, e2, e3, e4]
    generalize decide (t.1 ∈ A) = a1, decide (t.2 ∈ A) = a2, decide (t.1 ∈ B) = b1, decide (t.2 ∈ B) = b2
    cases a1 <;> cases a2 <;> cases b1 <;> cases b2 <;> simp <;> omega
section
variable {ts : List (Int × Int)} {n k : Int} {ws : List V}
theorem TightL.union {A B : List Int} (hL : LayK ts k ws) (a : TightL ts n k ws A) (b : TightL ts n k ws B) {x : Int} (xa : x ∈ A) (xb : x ∈ B) : TightL ts n k ws (orL n A B) := by
  have hl := four_len (fun x => decide (x ∈ A)) (fun x => decide (x ∈ B)) (upTo n)
  rw [a.lot.filt, b.lot.filt] at hl
  have hl : (orL n A B).length + (andL n A B).length = A.length + B.length := hl
  have xo : x ∈ orL n A B := (mem_orL a.lot b.lot).mpr (.inl xa)
  have xi : x ∈ andL n A B := (mem_andL a.lot).mpr ⟨xa, xb⟩
  have ne1 : orL n A B ≠ [] := fun e => by rw [e] at xo; cases xo
  have ne2 : andL n A B ≠ [] := fun e => by rw [e] at xi; cases xi
  have up1 : (orL n A B).Pairwise (· < ·) := (upTo_up n).filter _
  have up2 : (andL n A B).Pairwise (· < ·) := (upTo_up n).filter _
  refine ⟨⟨ne1, up1, fun y hy => mem_upTo (List.mem_filter.mp hy).1⟩, fun f f0 f1 => ?_⟩
  have h1 := inside_forest (hL.tree f) (rise_nd up1) ne1
  have h2 := inside_forest (hL.tree f) (rise_nd up2) ne2
  have h3 := or_and_inside a.lot b.lot (layerOf ts ws f)
  have h4 := a.tight f f0 f1
  have h5 := b.tight f f0 f1
  omega
/-- a tight lot holds both -/
def Tog (ts : List (Int × Int)) (n k : Int) (ws : List V) (x y : Int) : Prop := ∃ ls, TightL ts n k ws ls ∧ x ∈ ls ∧ y ∈ ls
theorem Tog.symm {x y : Int} (h : Tog ts n k ws x y) : Tog ts n k ws y x := let ⟨l, a, b, c⟩ := h; ⟨l, a, c, b⟩
theorem Tog.trans {x y z : Int} (hL : LayK ts k ws) (h : Tog ts n k ws x y) (g : Tog ts n k ws y z) : Tog ts n k ws x z := by
  obtain ⟨A, a, xa, ya⟩ := h
  obtain ⟨B, b, yb, zb⟩ := g
  exact ⟨orL n A B, a.union hL b ya yb, (mem_orL a.lot b.lot).mpr (.inl xa), (mem_orL a.lot b.lot).mpr (.inr zb)⟩
open Classical in
/-- all that a tight lot holds with x -/
noncomputable def cT (ts : List (Int × Int)) (n k : Int) (ws : List V) (x : Int) : List Int := (upTo n).filter fun y => decide (Tog ts n k ws x y)
end
end FF
namespace FF
open PySem PySem.Spec PyProof.Rows L2
variable [LT]
/-! ### the brims: the greatest tight lots in their order -/
section
variable {ts : List (Int × Int)} {k : Int} {ws : List V} {m : Nat}
end
end FF
namespace FF
open PySem PySem.Spec PyProof.Rows L2
variable [LT]
/-! ### sum(lists, []) -/
section
variable {X : Cx}
end
end FF
namespace FF
open PySem PySem.Spec PyProof.Rows L2
variable [LT]
/-! ### sorted of a list of lots, with its order -/
end FF
namespace FF
open PySem PySem.Spec PyProof.Rows L2
variable [LT]
/-! ### sorted of a tuple of lots; zip of a tuple and a tuple or a list -/
section
variable {prog : Program} {w : World} {A : Around} {E : Value → Shared → Prop} {s : Shared} {β : Type}
end
end FF
namespace FF
open PySem PySem.Spec PyProof.Rows L2
variable [LT]
/-! ### blocks with trees side by side -/
section
variable {ts : List (Int × Int)} {k : Int} {ws : List V} {m : Nat}
end
end FF
namespace FF
open PySem PySem.Spec PyProof.Rows L2
variable [LT]
/-! ### a call of a def that asks str -/
section
variable {X : Cx} {CX : CXT} {k : Nat} {f : Addr} {fd : FuncData} {ps : List Str} {sp : Sp} {dvs : List V} {ds : List Value} {E : XK} {x : Str} {p pos : Pos} {e : Expr} {es : List Expr} {t : TA}
end
/-! ### names and orders: rows that tell every number once -/
end FF
namespace FF
open PySem PySem.Spec PyProof.Rows L2
variable [LT]
/-! ### a web with its points renamed and its ties in another order -/
section
variable {n : Nat} {ns ord : List Int} {ts : List (Int × Int)}
/-! entries led -/
end
end FF
namespace FF
open PySem PySem.Spec PyProof.Rows L2
variable [LT]
/-! ### defs that are handed, within an except suite, what it caught -/
section
open HotX L2H
structure FnHC (P : Program) (w : World) (K : PySem.W.Frag) (mg : Str → Option Value) (base : Heap) (k : Nat) (f : Addr) (fd : FuncData) (ps : List Str) (sp : Addr → Value → Option Addr → Sp) : Prop where
  few : ∀ a cls d vs H Q E, sp a cls d vs H Q E → vs.length = ps.length
  go : ∀ (A : Around) (outer : List Env) (s : Shared) (H : Hp) (args : Args) (us : List Value) (vs : List V) (Q : VK) (E : XK) (a : Addr) (oe : Obj) (cls : Value) (d : Option Addr), RoomH k A → Hot1 A (a, oe) → PinOk outer H s (a, oe) → L2N.Zn cls d oe → (∃ vs, oe.data = .fields vs) →
    Env0 P w K mg base A outer s H → BindsTo s fd args (ps.zip us) → Vals vs us → sp a cls d vs H Q E → codeAny (model P w) A (.call (.ref f) args) (CR CX0 outer P w H s Q E) s
theorem DefAt.okHC {P : Program} {w : World} {K : PySem.W.Frag} {mg : Str → Option Value} {base : Heap} {x : Str} {st : Stmt} {f : Addr} {fd : FuncData} {N ps : List Str} {k : Nat} {sp : Addr → Value → Option Addr → Sp} (D : DefAt K mg x st ps f fd) (S : FnScope N ps (defScope st)) (len : ∀ a cls d vs H Q E, sp a cls d vs H Q E → vs.length = ps.length)
    (hbody : ∀ (A : Around) (outer : List Env) (s : Shared) (H : Hp) (vs : List V) (Q : VK) (E : XK) (a : Addr) (oe : Obj) (cls : Value) (d : Option Addr), Hot1 A (a, oe) → L2N.Zn cls d oe → (∃ vs, oe.data = .fields vs) → RoomH k (A.deeper (envOfC x (defScope st) s.heap.objs.size f fd.code)) → sp a cls d vs H Q E →
      ∃ t, PSs (cxH CX0 P w K mg base N x (defScope st) f fd.code A outer s H E (a, oe)) (defBody st) t ∧ t { nx := fun _ H' => Q .non H', rt := Q } (L2.start N vs) H) : FnHC P w K mg base (k + 1) f fd ps sp := by
  obtain ⟨oc, od, dV, kV, doc, pm, an, cdv, ct, osl, rfl, lk, hcd, _, _⟩ := D.F.ex
  refine ⟨len, fun A outer s H args us vs Q E a oe cls d hr hot hpin hz hf e0 hb rv hsp => ?_⟩
  have old : ∀ b o, base.get? b = some o → s.heap.get? b = some o := fun b o e => (e0.bs b o e).1
  obtain ⟨t, ht, ask⟩ := hbody A outer s H vs Q E a oe cls d hot hz hf (hr.deeper _) hsp
  have cells : ∀ y ∈ ps.zip us, (defScope st).names.lookup y.1 = some .local ∨ ((defScope st).names.lookup y.1 = some .cell ∧ ((cellsFrom (s.heap.objs.size + 1) (defScope st).names []).lookup y.1).isSome = true) := fun y hy =>
    (S.par y.1 (List.of_mem_zip (a := y.1) (b := y.2) hy).1).imp id fun z => ⟨z, PySem.W.cellsFrom_some _ _ _ (.inl z)⟩
  have kin := e0.mod.kin.keeps old
  refine codeAny_call_function hr.depth (kin _ _ lk) rfl S.co S.gen rfl (PySem.W.codeRec_of kin hcd) (hb _ _ _ _ (wpAny_newFunctionEnv_cells S.kind cells fun env he s1 into => ?_))
  subst he
  have I0 : Inv (cxH CX0 P w K mg base N x (defScope st) f cdv A outer s H E (a, oe)) [] (L2.start N vs) H s1 := inv_startH S hpin e0 (len _ _ _ _ _ _ _ hsp) rv into
  refine ⟨(e0.mod.nolimit.keeps old).keeps into.toInCall.keep, codeAny_func (wpAny_mono (ht.run [] s1 (L2.start N vs) H _ I0 ask) (fun fl s' z => ?_) fun _ _ z => z)⟩
  match fl, z with
  | .ret _, ⟨v, _, H', J, ru, q⟩ => exact ⟨v, H', J.os, J.bare, J.base, J.hok, ru, q⟩
  | .next, ⟨_, H', J, q⟩ => exact ⟨.non, H', J.os, J.bare, J.base, J.hok, rfl, q⟩
  | .brk, ⟨_, _, _, q⟩ => exact q.elim
  | .cont, ⟨_, _, _, q⟩ => exact q.elim
def tCallC (sp : Sp) (t : TA) : TE := fun σ H Q => t σ H fun vs H1 => sp vs H1 Q E0
theorem hot_callC {X : Cx} {k : Nat} {f : Addr} {fd : FuncData} {ps : List Str} {a : Addr} {oe : Obj} {cls : Value} {d : Option Addr} {sp : Addr → Value → Option Addr → Sp} {x : Str} {q pos : Pos} {e : Expr} {es : List Expr} {t : TA} (F : FnHC X.prog X.w X.K X.mg X.base k f fd ps sp)
    (r1 : X.A.depth + 3 * k + 5 < recursionLimit) (r2 : X.A.units + 16 * k + 200 < cLine) (hot : Hot1 X.A (a, oe)) (hp : (a, oe) ∈ X.pn) (hz : L2N.Zn cls d oe) (hf : ∃ vs, oe.data = .fields vs) (hg : Gl X x) (hm : X.mg x = some (.ref f)) (hk : PySem.W.keepIn X.K (.ref f) = true) (hb : Binds X.K fd ps [])
    (ha : PA X (e :: es) t) (hdb : (x == ("__debug__" : Str)) = false := by decide) (he : starEach (e :: es) X.env = (false, eval e X.env) :: starEach es X.env := by rfl) (hpl : (backTo pos (starEach es X.env)).any (·.1) = false := by rfl) :
    PE X (.Call (.Name x q) (e :: es) [] pos) (tCallC (sp a cls d) t) := by
  refine ⟨fun pins s σ H Q I h => ?_⟩
  refine wpAny_Call_Name_kw (ld_glob I hg hm ?_ hdb)
  refine PySem.W.callWith_K (h₀ := X.base) I.ok.mod.kin hk (thn (ha.run pos pins s σ H _ I h) fun us s1 ⟨vs, H1, I1, r, q⟩ => ⟨I1.kIn, ?_⟩) he hpl
  have hl : us.length = ps.length := by rw [← r.length]; exact F.few _ _ _ _ _ _ _ q
  have b := hb s1 us I1.kIn (by rw [List.append_nil]; exact hl)
  rw [List.append_nil] at b
  have P1 := I1.pin (a, oe) (List.mem_append_left _ hp)
  have hpin : PinOk X.stack H1 s1 (a, oe) := ⟨P1.1, P1.2.1, fun hm => (List.mem_cons.mp (I1.stkSub a hm)).elim P1.2.2.1 P1.2.2.2.1, P1.2.2.2.2⟩
  refine wpAny_call (codeAny_mono (F.go X.A X.stack s1 H1 ⟨us, []⟩ us vs Q E0 a oe cls d ⟨r1, r2⟩ hot hpin hz hf I1.env0 b r q) fun r s' hq => ?_)
  cases r with
  | error e => exact False.elim hq
  | ok fl =>
    cases fl with
    | ret u => exact I1.after hq
    | next => exact False.elim hq
    | brk => exact False.elim hq
    | cont => exact False.elim hq
theorem hot1S {X : Cx} {a : Addr} {oe : Obj} {cls : Value} {d : Option Addr} {pn : List (Addr × Obj)} (hz : L2N.Zn cls d oe) (hf : ∃ vs, oe.data = .fields vs) : Hot1 (X.suite a ((a, oe) :: pn)).A (a, oe) := by
  obtain ⟨vs, e⟩ := hf
  exact ⟨rfl, vs, e, hz.2.2 vs e⟩
/-- isinstance of what is caught, there -/
theorem call_isH {X : Cx} {a : Addr} {oe : Obj} {cls : Value} {d : Option Addr} (hp : (a, oe) ∈ X.pn) (hz : Zc cls d oe) (hf : ∃ vs, oe.data = .fields vs) : CallR X (.builtin "isinstance") (rIsC X.K a cls d) := by
  intro pins s σ H xs us Q I r h
  obtain ⟨D, c, cv, b, rfl, rfl, rfl, C, hcv, e, q⟩ := h
  cases r with
  | cons rx rr =>
    cases rr with
    | cons rt rr =>
      cases rr
      cases rx
      have ec := hcv _ rt
      subst ec
      obtain ⟨hget, _⟩ := I.pin (a, oe) (List.mem_append.mpr (.inl hp))
      obtain ⟨vs, hv⟩ := hf
      have J : PySem.W.InstAt s.heap a oe D none := by
        obtain ⟨oc, od, oda, osl⟩ := oe
        obtain ⟨h1, h2⟩ := hz
        dsimp only at h1 h2 hv
        subst h1 h2 hv
        exact ⟨hget, rfl, rfl, trivial⟩
      exact PySem.W.kia_one (PySem.W.handS_kitx_exc C.hg C.hk C.hs C.hd C.ha C.hn C.ht C.hm) I.kIn J e (fun z => nomatch z) fun tk => ⟨.bl b, H, I.kept (t' := tk) fun _ _ z => z, rfl, q⟩
end
end FF
namespace FF
open PySem PySem.Spec PyProof.Rows L2
variable [LT]
/-! ### pieces of two webs side by side -/
theorem upTo_two {a b : Nat} : upTo ((a : Int) + b) = upTo (a : Int) ++ (upTo (b : Int)).map fun x => (a : Int) + x := by
  unfold upTo
  rw [show ((a : Int) + b).toNat = a + b by omega, Int.toNat_natCast, Int.toNat_natCast, List.range_add, List.map_append, List.map_map, List.map_map]
  congr 1
theorem mins_eq {g : Int → Int} {n : Int} : mins g n = (upTo n).filter (least g) := rfl
theorem pieces_two {g f h : Int → Int} {a b : Nat} (H1 : ∀ x y : Int, 0 ≤ x → x < a → 0 ≤ y → y < a → (g x = g y ↔ f x = f y)) (H2 : ∀ x y : Int, 0 ≤ x → x < b → 0 ≤ y → y < b → (g (a + x) = g (a + y) ↔ h x = h y))
    (H3 : ∀ x y : Int, 0 ≤ x → x < a → 0 ≤ y → y < b → g x ≠ g (a + y)) : piecesF g ((a : Int) + b) = piecesF f a ++ (piecesF h b).map fun l => l.map fun x => (a : Int) + x := by
  have p1 : ∀ x : Int, 0 ≤ x → x < a → piece g ((a : Int) + b) x = piece f a x := fun x x0 x1 => by
    have e1 : (upTo (a : Int)).filter (fun y => decide (g y = g x)) = (upTo (a : Int)).filter fun y => decide (f y = f x) := List.filter_congr fun y hy => by
      obtain ⟨y0, y1⟩ := upTo_mem.mp hy
      exact decide_eq_decide.mpr (H1 y x y0 y1 x0 x1)
    have e2 : ((upTo (b : Int)).map fun x => (a : Int) + x).filter (fun y => decide (g y = g x)) = [] := List.filter_eq_nil_iff.mpr fun y hy => by
      obtain ⟨z, hz, rfl⟩ := List.mem_map.mp hy
      obtain ⟨z0, z1⟩ := upTo_mem.mp hz
      intro e
      exact H3 x z x0 x1 z0 z1 (of_decide_eq_true e).symm
    unfold piece
    rw [upTo_two, List.filter_append, e1, e2, List.append_nil]
  have p2 : ∀ x : Int, 0 ≤ x → x < b → piece g ((a : Int) + b) (a + x) = (piece h b x).map fun x => (a : Int) + x := fun x x0 x1 => by
    unfold piece
    rw [upTo_two, List.filter_append, List.filter_eq_nil_iff.mpr fun y hy => ?_, List.nil_append, List.filter_map]
    · congr 1
      refine List.filter_congr fun y hy => ?_
      obtain ⟨y0, y1⟩ := upTo_mem.mp hy
      exact decide_eq_decide.mpr (H2 y x y0 y1 x0 x1)
    · obtain ⟨y0, y1⟩ := upTo_mem.mp hy
      intro e
      exact H3 y x y0 y1 x0 x1 (of_decide_eq_true e)
  have m1 : (upTo (a : Int)).filter (least g) = (upTo (a : Int)).filter (least f) := List.filter_congr fun x hx => by
    obtain ⟨x0, x1⟩ := upTo_mem.mp hx
    rw [Bool.eq_iff_iff, least_iff, least_iff]
    exact ⟨fun q y y0 y1 e => q y y0 y1 ((H1 y x y0 (by omega) x0 x1).mpr e), fun q y y0 y1 e => q y y0 y1 ((H1 y x y0 (by omega) x0 x1).mp e)⟩
  have m2 : ((upTo (b : Int)).map fun x => (a : Int) + x).filter (least g) = ((upTo (b : Int)).filter (least h)).map fun x => (a : Int) + x := by
    rw [List.filter_map]
    congr 1
    refine List.filter_congr fun x hx => ?_
    obtain ⟨x0, x1⟩ := upTo_mem.mp hx
    show least g (a + x) = least h x
    rw [Bool.eq_iff_iff, least_iff, least_iff]
    refine ⟨fun q y y0 y1 e => q (a + y) (by omega) (by omega) ((H2 y x y0 (by omega) x0 x1).mpr e), fun q y y0 y1 e => ?_⟩
    by_cases c : y < a
    · exact H3 y x y0 c x0 x1 e
    · refine q (y - a) (by omega) (by omega) ((H2 (y - a) x (by omega) (by omega) x0 x1).mp ?_)
      rw [show (a : Int) + (y - a) = y by omega]
      exact e
  unfold piecesF
  rw [mins_eq, mins_eq, mins_eq, upTo_two, List.filter_append, List.map_append, m1, m2, List.map_map, List.map_map]
  congr 1
  · refine List.map_congr_left fun x hx => ?_
    obtain ⟨x0, x1⟩ := upTo_mem.mp (List.mem_filter.mp hx).1
    exact p1 x x0 x1
  · refine List.map_congr_left fun x hx => ?_
    obtain ⟨x0, x1⟩ := upTo_mem.mp (List.mem_filter.mp hx).1
    exact p2 x x0 x1
theorem pieces_beside {a b : Nat} {ts us : List (Int × Int)} (h1 : TOk (a : Int) ts) (h2 : TOk (b : Int) us) : piecesF (foldR (fun x => x) (ts ++ us.map fun t => ((a : Int) + t.1, (a : Int) + t.2))) ((a : Int) + b) = piecesF (foldR (fun x => x) ts) a ++ (piecesF (foldR (fun x => x) us) b).map fun l => l.map fun x => (a : Int) + x := by
  let f := foldR (fun x => x) ts
  let h := foldR (fun x => x) us
  let G : Int → Int := fun z => if z < a then 2 * f z else 2 * h (z - a) + 1
  have gG : ∀ x y, foldR (fun x => x) (ts ++ us.map fun t => ((a : Int) + t.1, (a : Int) + t.2)) x = foldR (fun x => x) (ts ++ us.map fun t => ((a : Int) + t.1, (a : Int) + t.2)) y → G x = G y := foldR_fine (fun x y e => by rw [show x = y from e]) fun t ht => by
    rcases List.mem_append.mp ht with ht | ht
    · obtain ⟨t0, t1, t2⟩ := h1 t ht
      show (if t.1 < a then 2 * f t.1 else _) = (if t.2 < a then 2 * f t.2 else _)
      rw [if_pos (by omega), if_pos t2, show f t.1 = f t.2 from foldR_tie ht]
    · obtain ⟨w, hw, rfl⟩ := List.mem_map.mp ht
      obtain ⟨t0, t1, t2⟩ := h2 w hw
      show (if (a : Int) + w.1 < a then _ else 2 * h (a + w.1 - a) + 1) = (if (a : Int) + w.2 < a then _ else 2 * h (a + w.2 - a) + 1)
      rw [if_neg (by omega), if_neg (by omega), show (a : Int) + w.1 - a = w.1 by omega, show (a : Int) + w.2 - a = w.2 by omega, show h w.1 = h w.2 from foldR_tie hw]
  have Glo : ∀ x : Int, x < a → G x = 2 * f x := fun x c => if_pos c
  have Ghi : ∀ x : Int, 0 ≤ x → G (a + x) = 2 * h x + 1 := fun x c => by
    show (if (a : Int) + x < a then _ else 2 * h (a + x - a) + 1) = _
    rw [if_neg (by omega), show (a : Int) + x - a = x by omega]
  refine pieces_two (fun x y x0 x1 y0 y1 => ⟨fun e => ?_, fun e => ?_⟩) (fun x y x0 x1 y0 y1 => ⟨fun e => ?_, fun e => ?_⟩) fun x y x0 x1 y0 y1 e => ?_
  · have := gG _ _ e
    rw [Glo _ x1, Glo _ y1] at this
    show f x = f y
    omega
  · exact foldR_sub (fun t ht => List.mem_append_left _ ht) x y e
  · have := gG _ _ e
    rw [Ghi _ x0, Ghi _ y0] at this
    show h x = h y
    omega
  · exact foldR_fine (g := fun z => foldR (fun x => x) (ts ++ us.map fun t => ((a : Int) + t.1, (a : Int) + t.2)) (a + z)) (fun x y e => by rw [show x = y from e]) (fun t ht => foldR_tie (t := ((a : Int) + t.1, (a : Int) + t.2)) (List.mem_append_right _ (List.mem_map.mpr ⟨t, ht, rfl⟩))) x y e
  · have := gG _ _ e
    rw [Glo _ x1, Ghi _ y0] at this
    omega
end FF
namespace FF
open PySem PySem.Spec PyProof.Rows L2
variable [LT]
def top (i : Nat) : Stmt := PySem.Challenge.pw_fewforests_k75_beside_and_doubled.main.body.getD i (.Pass ⟨0, 0, 0, 0⟩)
abbrev s_leader_of : Stmt := top 4
abbrev s_join_points : Stmt := top 5
abbrev s_pieces_of : Stmt := top 9
abbrev s_webs_beside : Stmt := top 11
abbrev s_doubled_web : Stmt := top 12
abbrev s_copies_of : Stmt := top 13
abbrev s_bounded_web : Stmt := top 14
abbrev s_law_mixed : Stmt := top 16
abbrev s_law_deck : Stmt := top 17
abbrev s_law_next : Stmt := top 18
abbrev s_law_tie : Stmt := top 19
abbrev s_law_any_web : Stmt := top 20
abbrev s_law_round : Stmt := top 21
abbrev s_law_full : Stmt := top 22
abbrev s_law_tree : Stmt := top 23
abbrev s_law_web : Stmt := top 24
abbrev s_law_heads : Stmt := top 25
abbrev s_law_pieces : Stmt := top 26
abbrev s_law_refused_with : Stmt := top 27
abbrev s_law_told : Stmt := top 28
abbrev s_law_told_twice : Stmt := top 29
abbrev s_law_told_often : Stmt := top 30
abbrev s_law_copies_hold : Stmt := top 31
abbrev s_law_beside : Stmt := top 32
abbrev s_law_doubled : Stmt := top 33
abbrev s_law_great : Stmt := top 34
abbrev s_law : Stmt := top 35

/-! ### built-ins and constants of the text -/
structure Blt (mg : Str → Option Value) : Prop where
  b_ValueError : mg "ValueError" = none
  b_int : mg "int" = none
  b_isinstance : mg "isinstance" = none
  b_len : mg "len" = none
  b_list : mg "list" = none
  b_max : mg "max" = none
  b_min : mg "min" = none
  b_range : mg "range" = none
  b_reversed : mg "reversed" = none
  b_set : mg "set" = none
  b_sorted : mg "sorted" = none
  b_str : mg "str" = none
  b_tuple : mg "tuple" = none
  c_MOST_POINTS : ∃ t, mg "MOST_POINTS" = some (.int 40 t)
  c_MOST_TIES : ∃ t, mg "MOST_TIES" = some (.int 120 t)
def xfs : List Xf := [.glo "WebsError", .glo "TooGreat", .exc "TooGreat", .exm "TooGreat" "WebsError" true, .ec "TooGreat", .kit "TooGreat" "TooGreat" true]
def Tabs (tb : List Addr) (H : Hp) : Prop := ∀ P ∈ tb, TabG H P
theorem Tabs.kx {tb : List Addr} {S : Addr → Prop} {H H1 : Hp} (h : Tabs tb H) (k : Kx S H H1) : Tabs tb H1 := fun P hP => k.tab P (h P hP)
theorem Tabs.dk {tb : List Addr} {p : Addr} {H H1 : Hp} (h : Tabs tb H) (k : Dk p H H1) : Tabs tb H1 := h.kx k.k
theorem Tabs.new {tb : List Addr} {p : Addr} {H : Hp} {o : HO} (h : Tabs tb H) (k : H p = none) : Tabs tb (upd H p o) := h.kx (S := fun _ => False) (Ke.new k)
abbrev nm_leader_of : List Str := ["leaders", "point"]
theorem sc_leader_of : FnScope nm_leader_of ["leaders", "point"] (defScope s_leader_of) := ⟨rfl, rfl, rfl, by decide +kernel, rfl, by decide +kernel, by decide +kernel⟩
/-! ### leader_of -/
def sp_leader_of (_ : PySem.W.Frag) (_ : List Addr) : Sp := fun vs H Q _ => ∃ (p : Addr) (ls : List Int) (n : Int) (r : Int → Int) (d : Int → Nat) (x : Int), vs = [.ref p, .int x] ∧ H p = some (.lst (ls.map V.int)) ∧ UF n ls r d ∧ 0 ≤ x ∧ x < n ∧
  ∀ ls', UF n ls' r d → Q (.int (r x)) (upd H p (.lst (ls'.map V.int)))
abbrev nm_join_points : List Str := ["leaders", "a", "b", "first", "second"]
theorem sc_join_points : FnScope nm_join_points ["leaders", "a", "b"] (defScope s_join_points) := ⟨rfl, rfl, rfl, by decide +kernel, rfl, by decide +kernel, by decide +kernel⟩
/-! ### join_points -/
def sp_join_points (_ : PySem.W.Frag) (_ : List Addr) : Sp := fun vs H Q _ => ∃ (p : Addr) (ls : List Int) (n : Int) (r : Int → Int) (d : Int → Nat) (a b : Int), vs = [.ref p, .int a, .int b] ∧ H p = some (.lst (ls.map V.int)) ∧ UF n ls r d ∧ 0 ≤ a ∧ a < n ∧ 0 ≤ b ∧ b < n ∧
  ∀ ls' d', UF n ls' (rstep r (a, b)) d' → Q (.bl (!decide (r a = r b))) (upd H p (.lst (ls'.map V.int)))
abbrev nm_pieces_of : List Str := ["web", "points", "ties", "leaders", "a", "b", "pieces", "point"]
theorem sc_pieces_of : FnScope nm_pieces_of ["web"] (defScope s_pieces_of) := ⟨rfl, rfl, rfl, by decide +kernel, rfl, by decide +kernel, by decide +kernel⟩
theorem gnd_pieces_of_0 : (["piece"] : List Str).Nodup := by decide +kernel
/-! ### pieces_of -/
def sp_pieces_of (_ : PySem.W.Frag) (tb : List Addr) : Sp := fun vs H Q _ => ∃ (v : V) (n : Int) (ts : List (Int × Int)), vs = [v] ∧ Web H v n ts ∧ TOk n ts ∧ 0 ≤ n ∧ n ≤ 1000 ∧ ts.length ≤ 1000 ∧ Tabs tb H ∧
  ∀ H' u rs, Ke H H' → H u = none → H' u = some (.tup rs) → Lots H' rs (piecesF (foldR (fun x => x) ts) n) → Q (.ref u) H'
abbrev nm_bounded_web : List Str := ["points", "ties"]
theorem sc_bounded_web : FnScope nm_bounded_web ["points", "ties"] (defScope s_bounded_web) := ⟨rfl, rfl, rfl, by decide +kernel, rfl, by decide +kernel, by decide +kernel⟩
/-! ### bounded_web -/
def sp_bounded_web (K : PySem.W.Frag) (_ : List Addr) : Sp := fun vs H Q E => ∃ (n : Int) (ts : List (Int × Int)) (u : Addr) (rs : List V), vs = [.int n, .ref u] ∧ H u = some (.tup rs) ∧ Ties H rs ts ∧ n ≤ 1000 ∧ ts.length ≤ 100000 ∧
  (n ≤ 40 ∧ ts.length ≤ 120 → ∀ H' v', Ke H H' → Web H' v' n ts → Q v' H') ∧ (40 < n ∨ 120 < ts.length → E (.ref (He.ga K "TooGreat")) none H)
abbrev nm_webs_beside : List Str := ["one", "other", "behind"]
theorem sc_webs_beside : FnScope nm_webs_beside ["one", "other"] (defScope s_webs_beside) := ⟨rfl, rfl, rfl, by decide +kernel, rfl, by decide +kernel, by decide +kernel⟩
theorem gnd_webs_beside_0 : (["one", "a", "b"] : List Str).Nodup := by decide +kernel
/-! ### webs_beside -/
def ledT (n : Int) (us : List (Int × Int)) : List (Int × Int) := us.map fun t => (n + t.1, n + t.2)
def sp_webs_beside (K : PySem.W.Frag) (tb : List Addr) : Sp := fun vs H Q E => ∃ (v1 v2 : V) (n1 n2 : Int) (ts us : List (Int × Int)), vs = [v1, v2] ∧ Web H v1 n1 ts ∧ Web H v2 n2 us ∧ n1 ≤ 40 ∧ n2 ≤ 40 ∧ ts.length ≤ 120 ∧ us.length ≤ 120 ∧ TOk n1 ts ∧ TOk n2 us ∧ Tabs tb H ∧
  (n1 + n2 ≤ 40 ∧ ts.length + us.length ≤ 120 → ∀ H' v', Ke H H' → Web H' v' (n1 + n2) (ts ++ ledT n1 us) → Q v' H') ∧ (40 < n1 + n2 ∨ 120 < ts.length + us.length → ∀ H', Ke H H' → E (.ref (He.ga K "TooGreat")) none H')
abbrev nm_copies_of : List Str := ["web", "c"]
theorem sc_copies_of : FnScope nm_copies_of ["web", "c"] (defScope s_copies_of) := ⟨rfl, rfl, rfl, by decide +kernel, rfl, by decide +kernel, by decide +kernel⟩
/-! ### copies_of -/
def sp_copies_of (K : PySem.W.Frag) (_ : List Addr) : Sp := fun vs H Q E => ∃ (v : V) (n : Int) (ts : List (Int × Int)) (c : Nat), vs = [v, .int (c : Int)] ∧ Web H v n ts ∧ n ≤ 40 ∧ ts.length ≤ 120 ∧ c ≤ 120 ∧
  (c * ts.length ≤ 120 → ∀ H' v', Ke H H' → Web H' v' n (List.replicate c ts).flatten → Q v' H') ∧ (120 < c * ts.length → ∀ H', Ke H H' → E (.ref (He.ga K "TooGreat")) none H')
abbrev nm_doubled_web : List Str := ["web"]
theorem sc_doubled_web : FnScope nm_doubled_web ["web"] (defScope s_doubled_web) := ⟨rfl, rfl, rfl, by decide +kernel, rfl, by decide +kernel, by decide +kernel⟩
/-! ### doubled_web -/
def sp_doubled_web (K : PySem.W.Frag) (_ : List Addr) : Sp := fun vs H Q E => ∃ (v : V) (n : Int) (ts : List (Int × Int)), vs = [v] ∧ Web H v n ts ∧ n ≤ 40 ∧ ts.length ≤ 120 ∧
  (2 * ts.length ≤ 120 → ∀ H' v', Ke H H' → Web H' v' n (ts ++ ts) → Q v' H') ∧ (120 < 2 * ts.length → ∀ H', Ke H H' → E (.ref (He.ga K "TooGreat")) none H')
abbrev nm__law_mixed : List Str := ["_law_cell", "_law_k", "_law_number"]
theorem sc__law_mixed : FnScope nm__law_mixed ["_law_cell", "_law_k"] (defScope s_law_mixed) := ⟨rfl, rfl, rfl, by decide +kernel, rfl, by decide +kernel, by decide +kernel⟩
/-! ### _law_mixed -/
def sp__law_mixed (_ : PySem.W.Frag) (_ : List Addr) : Sp := fun vs H Q _ => ∃ c k : Int, vs = [.int c, .int k] ∧ 0 ≤ k ∧ k < 1000000 ∧ ∀ r : Int, 0 ≤ r → Q (.int r) H
abbrev nm__law_deck : List Str := ["_law_script", "_law_many", "_law_own", "_law_cell", "_law_rest", "_law_deck_here", "_law_k", "_law_at"]
theorem sc__law_deck : FnScope nm__law_deck ["_law_script", "_law_many"] (defScope s_law_deck) := ⟨rfl, rfl, rfl, by decide +kernel, rfl, by decide +kernel, by decide +kernel⟩
/-! ### _law_deck -/
def sp__law_deck (K : PySem.W.Frag) (_ : List Addr) : Sp := fun vs H Q _ => ∃ (a : Addr) (ns : List Int) (n : Int), vs = [.ref a, .int n] ∧ SqL K H a (ns.map V.int) ∧ ns.length ≤ 63 ∧ 0 ≤ n ∧ n ≤ 5000 ∧
  ∀ p H', H p = none → Ke H H' → Deck H' p → Q (.ref p) H'
abbrev nm__law_next : List Str := ["_law_deck_here"]
theorem sc__law_next : FnScope nm__law_next ["_law_deck_here"] (defScope s_law_next) := ⟨rfl, rfl, rfl, by decide +kernel, rfl, by decide +kernel, by decide +kernel⟩
/-! ### _law_next -/
def sp__law_next (_ : PySem.W.Frag) (_ : List Addr) : Sp := fun vs H Q _ => ∃ p : Addr, vs = [.ref p] ∧ Deck H p ∧ ∀ (r : Int) (H' : Hp), 0 ≤ r → r < 1000 → Dk p H H' → Q (.int r) H'
abbrev nm__law_tie : List Str := ["_law_deck_here", "_law_points", "_law_a", "_law_b"]
theorem sc__law_tie : FnScope nm__law_tie ["_law_deck_here", "_law_points"] (defScope s_law_tie) := ⟨rfl, rfl, rfl, by decide +kernel, rfl, by decide +kernel, by decide +kernel⟩
/-! ### _law_tie -/
def sp__law_tie (_ : PySem.W.Frag) (_ : List Addr) : Sp := fun vs H Q _ => ∃ (p : Addr) (n : Int), vs = [.ref p, .int n] ∧ Deck H p ∧ 2 ≤ n ∧
  ∀ (a b : Int) (t : Addr) (H1 : Hp), 0 ≤ a → a < b → b < n → Dk p H H1 → H1 t = none → Q (.ref t) (upd H1 t (.tup [.int a, .int b]))
abbrev nm__law_any_web : List Str := ["_law_deck_here", "_law_points", "_law_most", "_law_ties", "_law_k"]
theorem sc__law_any_web : FnScope nm__law_any_web ["_law_deck_here", "_law_points", "_law_most"] (defScope s_law_any_web) := ⟨rfl, rfl, rfl, by decide +kernel, rfl, by decide +kernel, by decide +kernel⟩
/-! ### _law_any_web -/
def sp__law_any_web (_ : PySem.W.Frag) (_ : List Addr) : Sp := fun vs H Q _ => ∃ (p : Addr) (n m : Int), vs = [.ref p, .int n, .int m] ∧ Deck H p ∧ 1 ≤ n ∧ n ≤ 1000 ∧ 0 ≤ m ∧ m ≤ 1000 ∧
  ∀ (H' : Hp) (v : V) (ts : List (Int × Int)), Dk p H H' → Web H' v n ts → (ts.length : Int) ≤ m → TOk n ts → (n = 1 → ts = []) → Q v H'
abbrev nm__law_round : List Str := ["_law_points", "_law_k"]
theorem sc__law_round : FnScope nm__law_round ["_law_points"] (defScope s_law_round) := ⟨rfl, rfl, rfl, by decide +kernel, rfl, by decide +kernel, by decide +kernel⟩
/-! ### _law_round -/
def sp__law_round (_ : PySem.W.Frag) (_ : List Addr) : Sp := fun vs H Q _ => ∃ n : Int, vs = [.int n] ∧ 2 ≤ n ∧ n ≤ 1000 ∧
  ∀ (H' : Hp) (l : Addr) (ts : List (Int × Int)), Ke H H' → H l = none → TL H' l ts → (ts.length : Int) ≤ n → TOk n ts → Q (.ref l) H'
abbrev nm__law_full : List Str := ["_law_points", "_law_found", "_law_b", "_law_a"]
theorem sc__law_full : FnScope nm__law_full ["_law_points"] (defScope s_law_full) := ⟨rfl, rfl, rfl, by decide +kernel, rfl, by decide +kernel, by decide +kernel⟩
/-! ### _law_full -/
def sp__law_full (_ : PySem.W.Frag) (_ : List Addr) : Sp := fun vs H Q _ => ∃ n : Int, vs = [.int n] ∧ 0 ≤ n ∧ n ≤ 100 ∧
  ∀ (H' : Hp) (l : Addr) (ts : List (Int × Int)), Ke H H' → H l = none → TL H' l ts → (ts.length : Int) ≤ 10000 → TOk n ts → Q (.ref l) H'
abbrev nm__law_tree : List Str := ["_law_deck_here", "_law_points", "_law_k"]
theorem sc__law_tree : FnScope nm__law_tree ["_law_deck_here", "_law_points"] (defScope s_law_tree) := ⟨rfl, rfl, rfl, by decide +kernel, rfl, by decide +kernel, by decide +kernel⟩
/-! ### _law_tree -/
def sp__law_tree (_ : PySem.W.Frag) (_ : List Addr) : Sp := fun vs H Q _ => ∃ (p : Addr) (n : Int), vs = [.ref p, .int n] ∧ Deck H p ∧ 1 ≤ n ∧ n ≤ 1000 ∧
  ∀ (H' : Hp) (l : Addr) (ts : List (Int × Int)), Dk p H H' → H l = none → TL H' l ts → (ts.length : Int) ≤ n → TOk n ts → Q (.ref l) H'
abbrev nm__law_web : List Str := ["_law_deck_here", "_law_points", "_law_most", "_law_sort", "_law_size", "_law_more", "_law_ties", "_law_turn"]
theorem sc__law_web : FnScope nm__law_web ["_law_deck_here", "_law_points", "_law_most"] (defScope s_law_web) := ⟨rfl, rfl, rfl, by decide +kernel, rfl, by decide +kernel, by decide +kernel⟩
/-! ### _law_web -/
def sp__law_web (_ : PySem.W.Frag) (_ : List Addr) : Sp := fun vs H Q _ => ∃ (p : Addr) (M m : Int), vs = [.ref p, .int M, .int m] ∧ Deck H p ∧ 1 ≤ M ∧ M ≤ 100 ∧ 0 ≤ m ∧ m ≤ 1000 ∧
  ∀ (H' : Hp) (v : V) (n : Int) (ts : List (Int × Int)), Dk p H H' → Web H' v n ts → 1 ≤ n → n ≤ M → (ts.length : Int) ≤ m → TOk n ts → Q v H'
abbrev nm__law_heads : List Str := ["_law_points", "_law_ties", "_law_found", "_law_a", "_law_b", "_law_one", "_law_other", "_law_head"]
theorem sc__law_heads : FnScope nm__law_heads ["_law_points", "_law_ties"] (defScope s_law_heads) := ⟨rfl, rfl, rfl, by decide +kernel, rfl, by decide +kernel, by decide +kernel⟩
/-! ### _law_heads -/
def sp__law_heads (_ : PySem.W.Frag) (_ : List Addr) : Sp := fun vs H Q _ => ∃ (n : Int) (u : Addr) (rs : List V) (ts : List (Int × Int)), vs = [.int n, .ref u] ∧ H u = some (.tup rs) ∧ Ties H rs ts ∧ TOk n ts ∧ 0 ≤ n ∧ n ≤ 1000 ∧
  ∀ l H', Ke H H' → H' l = some (.lst ((headsF (upTo n) ts).map V.int)) → Q (.ref l) H'
abbrev nm__law_pieces : List Str := ["_law_points", "_law_ties", "_law_heads_here", "_law_head", "_law_k"]
theorem sc__law_pieces : FnScope nm__law_pieces ["_law_points", "_law_ties"] (defScope s_law_pieces) := ⟨rfl, rfl, rfl, by decide +kernel, rfl, by decide +kernel, by decide +kernel⟩
def csc__law_pieces_2_17 : Scope := { kind := .function, names := [(".0", .local), ("_law_head", .cell), ("tuple", .globalImplicit), ("range", .globalImplicit), ("_law_heads_here", .free), ("_law_points", .free)], isGenerator := false, isCoroutine := false, more := [] }
/-! ### _law_pieces -/
def sp__law_pieces (_ : PySem.W.Frag) (_ : List Addr) : Sp := fun vs H Q _ => ∃ (n : Int) (u : Addr) (rs : List V) (ts : List (Int × Int)), vs = [.int n, .ref u] ∧ H u = some (.tup rs) ∧ Ties H rs ts ∧ TOk n ts ∧ 0 ≤ n ∧ n ≤ 60 ∧
  ∀ H' c cs, Ke H H' → H c = none → H' c = some (.tup cs) → Lots H' cs (piecesF (foldR (fun x => x) ts) n) → Q (.ref c) H'
abbrev nm__law_refused_with : List Str := ["_law_error"]
theorem sc__law_refused_with : FnScope nm__law_refused_with ["_law_error"] (defScope s_law_refused_with) := ⟨rfl, rfl, rfl, by decide +kernel, rfl, by decide +kernel, by decide +kernel⟩
/-! ### _law_refused_with -/
def refD : PyData := .list [.str "refused", .bool true]
theorem refD_sh : SeqAt.shaped refD = true := (Sh.lst (k := 0) fun d hd => by
  rcases List.mem_cons.mp hd with rfl | hd
  · exact Sh.str
  · rw [List.mem_singleton.mp hd]
    exact Sh.bool).shaped
theorem refD_dp {K : PySem.W.Frag} {H : Hp} {l : Addr} (h : H l = some (.lst [.str "refused", .bl true])) : Dp K H (.ref l) refD := .lst (sqL_of h) (.cons (.str _) (.cons (.bl _) .nil))
theorem eqv_sh {d : PyData} (h : SeqAt.shaped d = true) : PyData.eqv d d = true := SeqAt.eqv_refl _ (SeqAt.canLay_of_shaped h)
theorem web0 {H : Hp} {e v : Addr} {n : Int} (nv : (upd H e (.tup [])) v = none) : Web (upd (upd H e (.tup [])) v (.tup [.int n, .ref e])) (.ref v) n [] := ⟨v, e, [], rfl, upd_same, tup_new nv upd_same, .nil⟩
theorem ke0 {H : Hp} {e v : Addr} {n : Int} (ne : H e = none) (nv : (upd H e (.tup [])) v = none) : Ke H (upd (upd H e (.tup [])) v (.tup [.int n, .ref e])) := (Ke.new ne).trans (Ke.new nv)
def sp__law_refused_with (K : PySem.W.Frag) (_ : List Addr) (a : Addr) (cls : Value) (d : Option Addr) : Sp := fun vs H Q _ => vs = [.ref a] ∧ cls = .ref (He.ga K "TooGreat") ∧ d = none ∧
  ∀ H' l, Ke H H' → H l = none → H' l = some (.lst [.str "refused", .bl true]) → Q (.ref l) H'
abbrev nm__law_told : List Str := ["_law_one", "_law_other", "_law_told_here", "e"]
theorem sc__law_told : FnScope nm__law_told ["_law_one", "_law_other"] (defScope s_law_told) := ⟨rfl, rfl, rfl, by decide +kernel, rfl, by decide +kernel, by decide +kernel⟩
/-! ### _law_told -/
def sp__law_told (K : PySem.W.Frag) (tb : List Addr) : Sp := fun vs H Q _ => ∃ (v1 v2 : V) (n1 n2 : Int) (ts us : List (Int × Int)), vs = [v1, v2] ∧ Web H v1 n1 ts ∧ Web H v2 n2 us ∧ n1 ≤ 40 ∧ n2 ≤ 40 ∧ ts.length ≤ 120 ∧ us.length ≤ 120 ∧ TOk n1 ts ∧ TOk n2 us ∧ Tabs tb H ∧
  (n1 + n2 ≤ 40 ∧ ts.length + us.length ≤ 120 → ∀ H' v', Ke H H' → Web H' v' (n1 + n2) (ts ++ ledT n1 us) → Q v' H') ∧
  (40 < n1 + n2 ∨ 120 < ts.length + us.length → ∀ H' l, Ke H H' → H l = none → H' l = some (.lst [.str "refused", .bl true]) → Q (.ref l) H')
abbrev nm__law_told_twice : List Str := ["_law_web_here", "_law_told_here", "e"]
theorem sc__law_told_twice : FnScope nm__law_told_twice ["_law_web_here"] (defScope s_law_told_twice) := ⟨rfl, rfl, rfl, by decide +kernel, rfl, by decide +kernel, by decide +kernel⟩
/-! ### _law_told_twice -/
def sp__law_told_twice (K : PySem.W.Frag) (_ : List Addr) : Sp := fun vs H Q _ => ∃ (v : V) (n : Int) (ts : List (Int × Int)), vs = [v] ∧ Web H v n ts ∧ n ≤ 40 ∧ ts.length ≤ 120 ∧
  (2 * ts.length ≤ 120 → ∀ H' v', Ke H H' → Web H' v' n (ts ++ ts) → Q v' H') ∧
  (120 < 2 * ts.length → ∀ H' l, Ke H H' → H l = none → H' l = some (.lst [.str "refused", .bl true]) → Q (.ref l) H')
abbrev nm__law_told_often : List Str := ["_law_web_here", "_law_c", "_law_told_here", "e"]
theorem sc__law_told_often : FnScope nm__law_told_often ["_law_web_here", "_law_c"] (defScope s_law_told_often) := ⟨rfl, rfl, rfl, by decide +kernel, rfl, by decide +kernel, by decide +kernel⟩
/-! ### _law_told_often -/
def sp__law_told_often (K : PySem.W.Frag) (_ : List Addr) : Sp := fun vs H Q _ => ∃ (v : V) (n : Int) (ts : List (Int × Int)) (c : Nat), vs = [v, .int (c : Int)] ∧ Web H v n ts ∧ n ≤ 40 ∧ ts.length ≤ 120 ∧ c ≤ 120 ∧
  (c * ts.length ≤ 120 → ∀ H' v', Ke H H' → Web H' v' n (List.replicate c ts).flatten → Q v' H') ∧
  (120 < c * ts.length → ∀ H' l, Ke H H' → H l = none → H' l = some (.lst [.str "refused", .bl true]) → Q (.ref l) H')
abbrev nm__law_copies_hold : List Str := ["_law_deck_here", "_law_web_here", "_law_c", "_law_due"]
theorem sc__law_copies_hold : FnScope nm__law_copies_hold ["_law_deck_here", "_law_web_here"] (defScope s_law_copies_hold) := ⟨rfl, rfl, rfl, by decide +kernel, rfl, by decide +kernel, by decide +kernel⟩
/-! ### _law_copies_hold -/
def sp__law_copies_hold (_ : PySem.W.Frag) (_ : List Addr) : Sp := fun vs H Q _ => ∃ (p : Addr) (v : V) (n : Int) (ts : List (Int × Int)), vs = [.ref p, v] ∧ Deck H p ∧ Web H v n ts ∧ 0 ≤ n ∧ n ≤ 40 ∧ ts.length ≤ 12 ∧
  ∀ H', Dk p H H' → Q (.bl true) H'
abbrev nm__law_beside : List Str := ["_law_one", "_law_other", "_law_a", "_law_b"]
theorem sc__law_beside : FnScope nm__law_beside ["_law_one", "_law_other"] (defScope s_law_beside) := ⟨rfl, rfl, rfl, by decide +kernel, rfl, by decide +kernel, by decide +kernel⟩
/-! ### _law_beside -/
def sp__law_beside (K : PySem.W.Frag) (_ : List Addr) : Sp := fun vs H Q _ => ∃ (v1 v2 : V) (n1 n2 : Int) (ts us : List (Int × Int)), vs = [v1, v2] ∧ Web H v1 n1 ts ∧ Web H v2 n2 us ∧ n1 ≤ 40 ∧ n2 ≤ 40 ∧ ts.length ≤ 120 ∧ us.length ≤ 120 ∧
  (n1 + n2 ≤ 40 ∧ ts.length + us.length ≤ 120 → ∀ H' v', Ke H H' → Web H' v' (n1 + n2) (ts ++ ledT n1 us) → Q v' H') ∧
  (40 < n1 + n2 ∨ 120 < ts.length + us.length → ∀ H' l, Ke H H' → H l = none → H' l = some (.lst [.str "refused", .bl true]) → Q (.ref l) H')
abbrev nm__law_doubled : List Str := ["_law_web_here"]
theorem sc__law_doubled : FnScope nm__law_doubled ["_law_web_here"] (defScope s_law_doubled) := ⟨rfl, rfl, rfl, by decide +kernel, rfl, by decide +kernel, by decide +kernel⟩
/-! ### _law_doubled -/
def sp__law_doubled (K : PySem.W.Frag) (_ : List Addr) : Sp := fun vs H Q _ => ∃ (v : V) (n : Int) (ts : List (Int × Int)), vs = [v] ∧ Web H v n ts ∧ n ≤ 40 ∧ ts.length ≤ 120 ∧
  (2 * ts.length ≤ 120 → ∀ H' v', Ke H H' → Web H' v' n (ts ++ ts) → Q v' H') ∧
  (120 < 2 * ts.length → ∀ H' l, Ke H H' → H l = none → H' l = some (.lst [.str "refused", .bl true]) → Q (.ref l) H')
abbrev nm__law_great : List Str := ["_law_deck_here", "_law_points", "_law_ties", "_law_j", "_law_one", "_law_other"]
theorem sc__law_great : FnScope nm__law_great ["_law_deck_here"] (defScope s_law_great) := ⟨rfl, rfl, rfl, by decide +kernel, rfl, by decide +kernel, by decide +kernel⟩
/-! ### _law_great -/
def sp__law_great (_ : PySem.W.Frag) (tb : List Addr) : Sp := fun vs H Q _ => ∃ (p : Addr), vs = [.ref p] ∧ Deck H p ∧ Tabs tb H ∧ ∀ H', Dk p H H' → Q (.bl true) H'
abbrev nm_law : List Str := ["_law_script", "_law_deck_here", "_law_one", "_law_other", "_law_kept", "_law_told_here", "_law_piece", "_law_j", "_law_pieces_here"]
theorem sc_law : FnScope nm_law ["_law_script"] (defScope s_law) := ⟨rfl, rfl, rfl, by decide +kernel, rfl, by decide +kernel, by decide +kernel⟩
def csc_law_8_23 : Scope := { kind := .function, names := [(".0", .local), ("_law_piece", .local), ("tuple", .globalImplicit), ("_law_one", .free)], isGenerator := false, isCoroutine := false, more := [] }
/-! ### law -/
def sp_law (K : PySem.W.Frag) (tb : List Addr) : Sp := fun vs H Q _ => ∃ (a : Addr) (ns : List Int), vs = [.ref a] ∧ SqL K H a (ns.map V.int) ∧ ns.length ≤ 63 ∧ Tabs tb H ∧ ∀ H', Q (.bl true) H'
theorem law_start {K : PySem.W.Frag} {tb : List Addr} {H : Hp} {a : Addr} {ns : List Int} (hl : ns.length ≤ 63) (_ : ∀ z ∈ ns, Builtin.Int.intBits z ≤ 1048576) (hT : Tabs tb H) (hS : SqL K H a (ns.map V.int)) : sp_law K tb [.ref a] H (fun v _ => v = .bl true) (fun _ _ _ => False) :=
  ⟨a, ns, rfl, hS, hl, hT, fun _ => rfl⟩
end FF
namespace FF
open PySem PySem.Spec PyProof.Rows L2
variable [LT]
theorem ok_leader_of {P : Program} {w : World} {K : PySem.W.Frag} {mg : Str → Option Value} {base : Heap} {tb : List Addr} {f : Addr} {fd : FuncData} (T : Blt mg) (D_leader_of : DefAt K mg "leader_of" s_leader_of ["leaders", "point"] f fd) (XC : Xcs xfs K mg) :
    FnOk P w K mg base CX0 1 f fd ["leaders", "point"] (sp_leader_of K tb) := by
  refine D_leader_of.ok sc_leader_of (fun vs H Q E h => by
    obtain ⟨p, ls, n, r, d, x, rfl, hp, u, x0, x1, q⟩ := h
    all_goals rfl) fun A outer s H vs Q E hr h => ?_
  obtain ⟨p, ls, n, r, d, x, rfl, hp, u, x0, x1, q⟩ := h
  refine ⟨_, pss_cons (ps_while PassesOwn.never (pt_cmpR op_ne (pe_ix (ix_listK (K := K)) (pv 0) (pv 1) (fun _ _ => rfl)) (pv 1) (nomark _))
     (pss_cons (ps_asg (pe_ix (ix_listK (K := K)) (pv 0) (pe_ix (ix_listK (K := K)) (pv 0) (pv 1) (fun _ _ => rfl)) (fun _ _ => rfl)) (pg_sub (pv 0) (pv 1) set_list))
     (pss_one (ps_set (i := 1) sc_leader_of.nd rfl (.inl rfl) (pe_ix (ix_listK (K := K)) (pv 0) (pv 1) (fun _ _ => rfl))))))
     (pss_one (ps_ret (pv 1))), ?_⟩
  refine while_by (fun σ G => ∃ (y : Int) (ls' : List Int), σ = [some (.ref p), some (.int y)] ∧ G = upd H p (.lst (ls'.map V.int)) ∧ UF n ls' r d ∧ 0 ≤ y ∧ y < n ∧ r y = r x) (fun σ _ => match σ with | [_, some (.int y)] => d y | _ => 0) ?_ (fun σ G hG => ?_) ?_
  · exact ⟨x, ls, rfl, (upd_id hp).symm, u, x0, x1, rfl⟩
  · obtain ⟨y, ls', rfl, rfl, u', y0, y1, hr⟩ := hG
    have hl := u'.len
    obtain ⟨z0, z1⟩ := u'.rng y y0 y1
    obtain ⟨w0, w1⟩ := u'.rng _ z0 z1
    refine ⟨_, rfl, _, rfl, p, _, _, _, rfl, rfl, sqL_of upd_same, hat_at y0 (by omega), _, rfl, rfl, _, rfl, iteB (fun e => ?_) (fun e => ?_)⟩
    · have hne : hat ls' y ≠ y := fun z => by
        have e : (!decide (V.int (hat ls' y) = V.int y)) = true := e
        rw [z, decide_eq_true rfl] at e
        cases e
      have u2 := u'.half y0 y1 hne
      have hs : hat (ls'.set y.toNat (hat ls' (hat ls' y))) y = hat ls' (hat ls' y) := by rw [hat_set y0 (by omega) y0, if_pos rfl]
      have hdd : d (hat ls' (hat ls' y)) < d y := by
        have h1 := u'.down y y0 y1 hne
        by_cases e : hat ls' (hat ls' y) = hat ls' y
        · rw [e]; exact h1
        · have := u'.down _ z0 z1 e
          omega
      refine ⟨_, rfl, _, rfl, _, rfl, p, _, _, _, rfl, rfl, sqL_of upd_same, hat_at y0 (by omega), p, _, _, _, rfl, rfl, sqL_of upd_same, hat_at z0 (by omega), _, rfl, _, rfl, p, _, _, _, rfl, rfl, upd_same, ix_in y0 (by rw [List.length_map]; omega), ?_⟩
      rw [upd_upd, ← List.map_set]
      refine ⟨_, rfl, _, rfl, p, _, _, _, rfl, rfl, sqL_of upd_same, hat_at y0 (by rw [List.length_set]; omega), ?_⟩
      rw [hs]
      exact ⟨⟨_, _, rfl, rfl, u2, w0, w1, (u'.root _ z0 z1).trans ((u'.root y y0 y1).trans hr)⟩, hdd⟩
    · have he : hat ls' y = y := by
        by_cases z : hat ls' y = y
        · exact z
        · have e : (!decide (V.int (hat ls' y) = V.int y)) = false := e
          rw [decide_eq_false fun q => z (V.int.inj q)] at e
          cases e
      have q1 := q ls' u'
      rw [← hr, u'.top y y0 y1 he] at q1
      exact ⟨_, rfl, q1⟩
  · rintro σ G Q1 Q2 hQ ⟨a, ha, b, hb, p1, xs, i, v, e1, e2, hs, hv, c, hc, hsc, k, hk, hq⟩
    exact ⟨a, ha, b, hb, p1, xs, i, v, e1, e2, hs, hv, c, hc, hsc, k, hk, hQ _ _ hq⟩
theorem ok_join_points {P : Program} {w : World} {K : PySem.W.Frag} {mg : Str → Option Value} {base : Heap} {tb : List Addr} {f : Addr} {fd : FuncData} {f_leader_of : Addr} {fd_leader_of : FuncData} (T : Blt mg) (D_join_points : DefAt K mg "join_points" s_join_points ["leaders", "a", "b"] f fd) (XC : Xcs xfs K mg) (D_leader_of : DefAt K mg "leader_of" s_leader_of ["leaders", "point"] f_leader_of fd_leader_of) (G_leader_of : FnOk P w K mg base CX0 1 f_leader_of fd_leader_of ["leaders", "point"] (sp_leader_of K tb)) :
    FnOk P w K mg base CX0 2 f fd ["leaders", "a", "b"] (sp_join_points K tb) := by
  refine D_join_points.ok sc_join_points (fun vs H Q E h => by
    obtain ⟨p, ls, n, r, d, a, b, rfl, hp, u, a0, a1, b0, b1, q⟩ := h
    all_goals rfl) fun A outer s H vs Q E hr h => ?_
  obtain ⟨p, ls, n, r, d, a, b, rfl, hp, u, a0, a1, b0, b1, q⟩ := h
  refine ⟨_, pss_cons (ps_set (i := 3) sc_join_points.nd rfl (.inl rfl) (pe_call G_leader_of (hr.mono (by decide)) (by rfl) D_leader_of.g D_leader_of.F.kp D_leader_of.b .nil pass0 (pa_cons (pv 0) (pa_cons (pv 1) pa_nil))))
     (pss_cons (ps_set (i := 4) sc_join_points.nd rfl (.inl rfl) (pe_call G_leader_of (hr.mono (by decide)) (by rfl) D_leader_of.g D_leader_of.F.kp D_leader_of.b .nil pass0 (pa_cons (pv 0) (pa_cons (pv 2) pa_nil))))
     (pss_cons (ps_asg (pv 3) (pg_sub (pv 0) (pv 4) set_list))
     (pss_one (ps_ret (pe_cmpR op_ne (pv 3) (pv 4) (nomark _)))))), ?_⟩
  refine ⟨_, rfl, _, rfl, p, ls, n, r, d, a, rfl, hp, u, a0, a1, fun l1 u1 => ?_⟩
  refine ⟨_, rfl, _, rfl, p, l1, n, r, d, b, rfl, upd_same, u1, b0, b1, fun l2 u2 => ?_⟩
  rw [upd_upd]
  obtain ⟨q0, q1, _⟩ := u2.rr b b0 b1
  have hl := u2.len
  refine ⟨_, rfl, _, rfl, _, rfl, p, _, _, _, rfl, rfl, upd_same, ix_in q0 (by rw [List.length_map]; omega), ?_⟩
  rw [upd_upd, ← List.map_set]
  obtain ⟨d', u3⟩ := u2.join a0 a1 b0 b1
  have qq := q _ d' u3
  refine ⟨_, rfl, _, rfl, rfl, ?_⟩
  have e : decide (V.int (r a) = V.int (r b)) = decide (r a = r b) := by
    by_cases z : r a = r b
    · rw [decide_eq_true z, decide_eq_true (congrArg V.int z)]
    · rw [decide_eq_false z, decide_eq_false fun h => z (V.int.inj h)]
  rw [e]
  exact qq
theorem ok_pieces_of {P : Program} {w : World} {K : PySem.W.Frag} {mg : Str → Option Value} {base : Heap} {tb : List Addr} {f : Addr} {fd : FuncData} {f_leader_of : Addr} {fd_leader_of : FuncData} {f_join_points : Addr} {fd_join_points : FuncData} (T : Blt mg) (D_pieces_of : DefAt K mg "pieces_of" s_pieces_of ["web"] f fd) (XC : Xcs xfs K mg) (D_leader_of : DefAt K mg "leader_of" s_leader_of ["leaders", "point"] f_leader_of fd_leader_of) (G_leader_of : FnOk P w K mg base CX0 1 f_leader_of fd_leader_of ["leaders", "point"] (sp_leader_of K tb)) (D_join_points : DefAt K mg "join_points" s_join_points ["leaders", "a", "b"] f_join_points fd_join_points) (G_join_points : FnOk P w K mg base CX0 2 f_join_points fd_join_points ["leaders", "a", "b"] (sp_join_points K tb)) {c Pt : Addr} (TB : LamX.TabB base mg c Pt) (hcd : fd.code = .ref c) (hPt : Pt ∈ tb) :
    FnOk P w K mg base CX0 7 f fd ["web"] (sp_pieces_of K tb) := by
  refine D_pieces_of.ok sc_pieces_of (fun vs H Q E h => by
    obtain ⟨v, n, ts, rfl, W, hok, hn0, hn1, hlen, hT0, q⟩ := h
    all_goals rfl) fun A outer s H vs Q E hr h => ?_
  obtain ⟨v, n, ts, rfl, W, hok, hn0, hn1, hlen, hT0, q⟩ := h
  refine ⟨_, pss_cons (ps_asg (pv 0) (tgtK (K := K) (n := 2) (pgs_cons (pg_name (i := 1) sc_pieces_of.nd rfl (.inl rfl)) (pgs_cons (pg_name (i := 2) sc_pieces_of.nd rfl (.inl rfl)) pgs_nil))))
     (pss_cons (ps_set (i := 3) sc_pieces_of.nd rfl (.inl rfl) (pe_listRg rfl (by rfl) T.b_list (prg_1 (by rfl) T.b_range (pv 1))))
     (pss_cons (ps_for PassesOwn.never rfl (pi_tup (pv 2)) (tgtK (K := K) (n := 2) (pgs_cons (pg_name (i := 4) sc_pieces_of.nd rfl (.inl rfl)) (pgs_cons (pg_name (i := 5) sc_pieces_of.nd rfl (.inl rfl)) pgs_nil)))
     (pss_one (ps_expr (pe_call G_join_points (hr.mono (by decide)) (by rfl) D_join_points.g D_join_points.F.kp D_join_points.b .nil pass0 (pa_cons (pv 3) (pa_cons (pv 4) (pa_cons (pv 5) pa_nil)))))))
     (pss_cons (ps_set (i := 6) sc_pieces_of.nd rfl (.inl rfl) (pe_dnewK))
     (pss_cons (ps_for PassesOwn.never rfl (pi_range1 (by rfl) T.b_range (pa_cons (pv 1) pa_nil)) (pg_name (i := 7) sc_pieces_of.nd rfl (.inl rfl))
     (pss_one (ps_expr (pe_bm PySem.F.plainAttrs_list PySem.F.slot_list_append PySem.F.type_list_append mt_append (pe_dsetd (pv 6) (pe_call G_leader_of (hr.mono (by decide)) (by rfl) D_leader_of.g D_leader_of.F.kp D_leader_of.b .nil pass0 (pa_cons (pv 3) (pa_cons (pv 7) pa_nil))) (pe_lst pa_nil) ⟨rfl, rfl, rfl, rfl⟩) (pa_cons (pv 7) pa_nil)))))
     (pss_one (ps_ret (pe_lock (pe_tuple (k := 0) (vs := [0]) (hr.mono (by decide)) (by rfl) T.b_tuple TB hcd (gxs_of (XN := nm_pieces_of) (xsc := defScope s_pieces_of) (N := ["piece"]) (src := [none]) (by decide +kernel)) (pi_values (pv 6)) ⟨fun _ _ _ _ _ _ => pg_name (i := 0) gnd_pieces_of_0 rfl (.inl rfl), fun _ _ _ _ _ _ hz => pts_nil, fun _ _ _ _ _ _ hz => pe_callTy (tupleK (K := K)) (by rfl) T.b_tuple (by decide +kernel) (pa_cons (pv 0) pa_nil)⟩)))))))), ?_⟩
  have LB := line_big
  obtain ⟨t, w, rs, rfl, ht, hw, hT⟩ := W
  have hrl := hT.length
  refine ⟨_, rfl, t, _, rfl, sqT_of ht, rfl, _, _, rfl, _, [], rfl, rfl, ?_⟩
  refine ⟨_, rfl, n, rfl, ⟨by omega, by omega, by omega, by omega, by omega⟩, fun l nl => ?_⟩
  refine ⟨_, rfl, w, rfl, ⟨_, sqT_of (tup_new nl hw)⟩, ?_⟩
  refine for_tup (K := K) (a := w) (xs := rs) (fun i σ G => ∃ (y4 y5 y6 y7 : Option V) (ls : List Int) (dd : Int → Nat), σ = [some (.ref t), some (.int n), some (.ref w), some (.ref l), y4, y5, y6, y7] ∧ Ke H G ∧ G l = some (.lst (ls.map V.int)) ∧ UF n ls (foldR (fun x => x) (ts.take i)) dd) ⟨_, _, _, _, upTo n, _, rfl, Ke.new nl, by rw [← rgV_up]; exact upd_same, UF.start hn0⟩ (fun i σ G _ hG => ?_) (fun i x σ G hx hG => ?_) (fun σ G hG => ?_)
  · obtain ⟨_, _, _, _, _, _, _, kG, _⟩ := hG
    exact sqT_of (kG.tup hw)
  · obtain ⟨y4, y5, y6, y7, ls, dd, rfl, kG, gl, U⟩ := hG
    obtain ⟨⟨x1, x2⟩, r', hti, rfl, hr'⟩ := hT.get hx
    obtain ⟨ok1, ok2, ok3⟩ := hok _ (List.mem_of_getElem? hti)
    dsimp only at ok1 ok2 ok3
    refine ⟨r', _, rfl, sqT_of (kG.tup hr'), rfl, _, _, rfl, _, [], rfl, rfl, ?_⟩
    refine ⟨_, rfl, _, rfl, _, rfl, l, ls, n, _, dd, x1, x2, rfl, gl, U, ok1, by omega, by omega, ok3, fun ls' d' U' => ?_⟩
    exact ⟨_, _, _, _, ls', d', rfl, kG.over nl, upd_same, by rw [take_next hti, foldR_snoc]; exact U'⟩
  · obtain ⟨y4, y5, y6, y7, ls, dd, rfl, kG, gl, U⟩ := hG
    rw [hrl, List.take_length] at U
    refine fun d nd => ?_
    have nldH : H d = none := kG.dom _ nd
    have nld : l ≠ d := ne_of_none gl nd
    generalize er : foldR (fun x => x) ts = r at *
    refine ⟨_, rfl, n, rfl, by omega, by omega, ?_⟩
    refine for_range (lo := 0) (n := n.toNat) (fun i σ G' => ∃ (y4 y5 y7 : Option V) (ls : List Int) (dd : Int → Nat) (fl : List (Int × Addr)), σ = [some (.ref t), some (.int n), some (.ref w), some (.ref l), y4, y5, some (.ref d), y7] ∧ Ke H G' ∧ G' l = some (.lst (ls.map V.int)) ∧ UF n ls r dd ∧ G' d = some (.dK (kvF fl)) ∧ Byf G' ((upTo i).map fun x => V.int (r x)) fl ∧ fl.map Prod.fst = nub ((upTo i).map r) ∧ fl.length ≤ i ∧ (∀ p ∈ fl, H p.2 = none) ∧ l ∉ fl.map Prod.snd) ⟨_, _, _, ls, dd, [], rfl, kG.trans (Ke.new nd), lst_new nd gl, U, upd_same, ⟨List.nodup_nil, List.nodup_nil, (fun _ z => nomatch z), fun f => ⟨(fun z => nomatch z), (fun z => nomatch z)⟩⟩, rfl, Nat.le_refl _, (fun _ z => nomatch z), (fun z => nomatch z)⟩ (fun i σ G' hi hG' => ?_) (fun σ G' hG' => ?_)
    · obtain ⟨y4, y5, y7, ls, dd, fl, rfl, kG', gl', U', gd', hB, hk, hfl, hfr, nlf⟩ := hG'
      have hii : (i : Int) < n := by omega
      have ndf : d ∉ fl.map Prod.snd := fun w => by
        obtain ⟨p, hp, ep⟩ := List.mem_map.mp w
        have := hB.each p hp
        rw [ep, gd'] at this
        cases this
      refine ⟨_, rfl, d, rfl, .inl ⟨_, .inl gd'⟩, ?_⟩
      refine ⟨_, rfl, _, rfl, l, ls, n, r, dd, _, rfl, gl', U', by omega, by omega, fun ls2 U2 => ?_⟩
      have k2 : Ke H (upd G' l (.lst (ls2.map V.int))) := kG'.over nl
      have gd2 : upd G' l (.lst (ls2.map V.int)) d = some (.dK (kvF fl)) := by rw [upd_ne nld.symm]; exact gd'
      have gl2 : upd G' l (.lst (ls2.map V.int)) l = some (.lst (ls2.map V.int)) := upd_same
      have hB2 := hB.off (o := .lst (ls2.map V.int)) nlf
      generalize upd G' l (.lst (ls2.map V.int)) = G2 at *
      refine ⟨by show 0 ≤ sizeLine; decide, fun z nz => ?_⟩
      have gd3 : upd G2 z (.lst []) d = some (.dK (kvF fl)) := by rw [upd_ne (ne_of_none gd2 nz)]; exact gd2
      have gl3 := lst_new (o := .lst []) nz gl2
      have hB3 := hB2.ke (Ke.new (o := .lst []) nz)
      have k3 : Ke H (upd G2 z (.lst [])) := k2.trans (Ke.new nz)
      have nzH : H z = none := k2.dom _ nz
      have nzf : z ∉ fl.map Prod.snd := fun w => by
        obtain ⟨p, hp, ep⟩ := List.mem_map.mp w
        have := hB2.each p hp
        rw [ep, nz] at this
        cases this
      have ndz : d ≠ z := ne_of_none gd2 nz
      have nlz : l ≠ z := ne_of_none gl2 nz
      have hwl : ((upTo i).map fun x => V.int (r x)).length = i := by rw [List.length_map, upTo_length]; omega
      have en : ((upTo ((i + 1 : Nat) : Int)).map fun x => V.int (r x)) = ((upTo i).map fun x => V.int (r x)) ++ [.int (r i)] := by
        rw [show ((i + 1 : Nat) : Int) = (i : Int) + 1 by omega, upTo_snoc, List.map_append]
        rfl
      have en2 : nub ((upTo ((i + 1 : Nat) : Int)).map r) = step_dedup (nub ((upTo i).map r)) (r i) := by
        rw [show ((i + 1 : Nat) : Int) = (i : Int) + 1 by omega, upTo_snoc, List.map_append]
        exact nub_snoc _ _
      rw [Int.zero_add]
      refine ⟨kvF fl, .inl (r i), gd3, rfl, by rw [kvF_length]; omega, fun v hv => ?_, fun hv => ?_⟩
      · have hmf : r i ∈ fl.map Prod.fst := by
          by_cases c : r i ∈ fl.map Prod.fst
          · exact c
          · rw [val_out c] at hv
            cases hv
        have en3 : fl.map Prod.fst = nub ((upTo ((i + 1 : Nat) : Int)).map r) := by
          rw [en2, ← hk]
          unfold step_dedup
          rw [if_pos (by simpa using hmf)]
        obtain ⟨⟨f2, q2⟩, hp, ef⟩ := List.mem_map.mp hmf
        have ef : f2 = r i := ef
        subst ef
        rw [val_in hB3.nd hp] at hv
        cases hv
        have gq := hB3.each _ hp
        have nqd : d ≠ q2 := fun w => ndf (w ▸ List.mem_map.mpr ⟨_, hp, rfl⟩)
        have nql : l ≠ q2 := fun w => nlf (w ▸ List.mem_map.mpr ⟨_, hp, rfl⟩)
        refine ⟨.inl ⟨rfl, _, sqL_of gq⟩, _, rfl, q2, _, _, rfl, rfl, gq, ?_, ?_⟩
        · rw [List.length_map]
          have := nums_length (r i) 0 ((upTo i).map fun x => V.int (r x))
          dsimp only at this ⊢
          omega
        · have hm := hB3.more hp
          rw [hwl] at hm
          exact ⟨_, _, _, ls2, dd, fl, rfl, k3.over (hfr _ hp), by rw [upd_ne nql]; exact gl3, U2, by rw [upd_ne nqd]; exact gd3, by rw [en]; exact hm, en3, by omega, hfr, nlf⟩
      · have hmf : r i ∉ fl.map Prod.fst := fun c => by
          obtain ⟨⟨f2, q2⟩, hp, ef⟩ := List.mem_map.mp c
          have ef : f2 = r i := ef
          subst ef
          rw [val_in hB3.nd hp] at hv
          cases hv
        have en3 : (fl ++ [(r i, z)]).map Prod.fst = nub ((upTo ((i + 1 : Nat) : Int)).map r) := by
          rw [en2, ← hk, List.map_append]
          unfold step_dedup
          rw [if_neg (by simpa using hmf)]
          rfl
        rw [put_out hmf]
        have gz4 : upd (upd G2 z (.lst [])) d (.dK (kvF (fl ++ [(r i, z)]))) z = some (.lst []) := by rw [upd_ne ndz.symm]; exact upd_same
        refine ⟨.inl ⟨rfl, _, sqL_of gz4⟩, _, rfl, z, _, _, rfl, rfl, gz4, by show 0 < sizeLine; decide, ?_⟩
        have hm := (hB3.off (o := .dK (kvF (fl ++ [(r i, z)]))) ndf).first hmf nzf
        rw [hwl] at hm
        refine ⟨_, _, _, ls2, dd, fl ++ [(r i, z)], rfl, (k3.over nldH).over nzH, ?_, U2, ?_, ?_, en3, by rw [List.length_append]; exact Nat.succ_le_succ hfl, fun p hp => ?_, fun w => ?_⟩
        · rw [upd_ne nlz, upd_ne nld]
          exact gl3
        · rw [upd_ne ndz]
          exact upd_same
        · rw [en]
          exact hm
        · rcases List.mem_append.mp hp with hp | hp
          · exact hfr p hp
          · rw [List.mem_singleton.mp hp]
            exact nzH
        · rw [List.map_append] at w
          rcases List.mem_append.mp w with w | w
          · exact nlf w
          · exact nlz (List.mem_singleton.mp w)
    · obtain ⟨y4, y5, y7, ls, dd, fl, rfl, kG', gl', U', gd', hB, hk, hfl, hfr, nlf⟩ := hG'
      have ndf : d ∉ fl.map Prod.snd := fun w => by
        obtain ⟨p, hp, ep⟩ := List.mem_map.mp w
        have := hB.each p hp
        rw [ep, gd'] at this
        cases this
      refine ⟨d, _, gd', trivial, fun od => ?_⟩
      have kB : Ke H (upd G' d (.frz od (.dK (kvF fl)))) := kG'.over nldH
      have B1 := hB.off (o := .frz od (.dK (kvF fl))) ndf
      have gB : (upd G' d (.frz od (.dK (kvF fl)))) d = some (.frz od (.dK (kvF fl))) := upd_same
      generalize upd G' d (.frz od (.dK (kvF fl))) = B at *
      refine ⟨_, rfl, d, od, _, rfl, gB, kB.tab _ (hT0 _ hPt), fun B2 htb2 => ?_⟩
      have kB2 : Ke B B2 := Ke.tabd (kB.tab _ (hT0 _ hPt)) htb2
      refine gx_it (a0 := []) (walk_values (d := d) (o := od) (kvs := kvF fl)) (fun i xs G => Ke B G ∧ xs.length = i ∧ Lots G xs ((fl.take i).map fun p => numsFrom p.1 0 ((upTo n.toNat).map fun x => V.int (r x)))) ⟨kB2, rfl, .nil⟩ (fun i xs G _ hG => hG.1.at_ _ _ gB (fun _ z => nomatch z) fun z => z) (fun i x xs G G2 hi hG hy => ?_) (fun xs G hG => ?_)
      · obtain ⟨kG, hxl, hF⟩ := hG
        obtain ⟨rfl, kk, hkx⟩ := hy
        unfold kvF at hkx
        rw [List.getElem?_map] at hkx
        cases ep : fl[i]? with
        | none => rw [ep] at hkx; cases hkx
        | some pr =>
          rw [ep] at hkx
          cases hkx
          have hpm := List.mem_of_getElem? ep
          have hil : i < fl.length := (List.getElem?_eq_some_iff.mp ep).1
          refine ⟨rfl, yes_ite ?_⟩
          refine ⟨_, rfl, pr.2, _, rfl, .inl ⟨sqL_of (kG.lst (B1.each pr hpm)), fun c nc => ?_⟩⟩
          refine ⟨by omega, kG.trans (Ke.new nc), by rw [List.length_append, hxl]; rfl, ?_⟩
          rw [take_next ep, List.map_append]
          exact (hF.new nc).append (Lots.one upd_same)
      · obtain ⟨kG, hxl, hF⟩ := hG
        rw [kvF_length] at hxl
        rw [kvF_length, List.take_length] at hF
        refine ⟨by omega, fun q1 nq => ?_⟩
        have gBG := kG.at_ _ _ gB (fun _ z => nomatch z) fun z => z
        have nqd : d ≠ q1 := ne_of_none gBG nq
        have gB3 : upd G q1 (.tup xs) d = some (.frz od (.dK (kvF fl))) := by rw [upd_ne nqd]; exact gBG
        refine ⟨gB3, ?_⟩
        refine q _ q1 xs (((kB.trans kG).trans (Ke.new nq)).over nldH) ((kB.trans kG).dom _ nq) (by rw [upd_ne nqd.symm]; exact upd_same) ?_
        have e2 : piecesF r n = fl.map fun p => numsFrom p.1 0 ((upTo n.toNat).map fun x => V.int (r x)) := by
          have z := pieces_keys r n.toNat (fs := fl.map Prod.fst) hk
          rw [show ((n.toNat : Nat) : Int) = n by omega] at z ⊢
          rw [← z, List.map_map]
          rfl
        rw [e2]
        exact (hF.new nq).mono fun a ys e => by rw [upd_ne (ne_of e gB3 (fun z => nomatch z))]; exact e
theorem ok_bounded_web {P : Program} {w : World} {K : PySem.W.Frag} {mg : Str → Option Value} {base : Heap} {tb : List Addr} {f : Addr} {fd : FuncData} (T : Blt mg) (D_bounded_web : DefAt K mg "bounded_web" s_bounded_web ["points", "ties"] f fd) (XC : Xcs xfs K mg) :
    FnOk P w K mg base (L2N.CX P w) 1 f fd ["points", "ties"] (sp_bounded_web K tb) := by
  refine D_bounded_web.okEN sc_bounded_web (fun vs H Q E h => by
    obtain ⟨n, ts, u, rs, rfl, hu, hT, hn, hlen, q0, qe⟩ := h
    all_goals rfl) fun A outer s H vs Q E hr h => ?_
  obtain ⟨n, ts, u, rs, rfl, hu, hT, hn, hlen, q0, qe⟩ := h
  refine ⟨_, pss_cons (ps_if (PT.nox (PW.pt (pw_or (pt_cmpR op_gt (pv 0) (pe_glob (v := .int 40) (by rfl) T.c_MOST_POINTS.choose_spec ⟨_, rfl⟩) (nomark _)) (pw_or1 (pt_cmpR op_gt (pe_callB (lenK (K := K)) (by rfl) T.b_len PySem.boot_len (pa_cons (pv 1) pa_nil)) (pe_glob (v := .int 120) (by rfl) T.c_MOST_TIES.choose_spec ⟨_, rfl⟩) (nomark _))))))
     (pss_one (ps_raiseCN XC (by decide +kernel) (by decide +kernel) rfl (L2N.takes_of rfl rfl rfl rfl) (by rfl)))
     (pss_nil))
     (pss_one (ps_nox (ps_ret (pe_tup (pa_cons (pv 0) (pa_cons (pv 1) pa_nil)))))), ?_⟩
  have LB := line_big
  have hrl := hT.length
  refine ⟨_, rfl, _, _, rfl, rfl, _, rfl, ?_⟩
  refine iteB (fun h => ?_) (fun h => ?_)
  · exact iteT (qe (.inl (by have := of_decide_eq_true h; omega)))
  have h40 : n ≤ 40 := by have := of_decide_eq_false h; omega
  refine ⟨_, rfl, u, _, rfl, .inr (sqT_of hu), _, _, rfl, rfl, _, rfl, ?_⟩
  refine iteB (fun h => qe (.inr (by have := of_decide_eq_true h; omega))) (fun h => ?_)
  have q := q0 ⟨h40, by have := of_decide_eq_false h; omega⟩
  refine ⟨_, rfl, _, rfl, by show 2 ≤ sizeLine; decide, fun c nc => ?_⟩
  exact q _ _ (Ke.new nc) ⟨c, u, rs, rfl, upd_same, tup_new nc hu, hT.new nc⟩
theorem ok_webs_beside {P : Program} {w : World} {K : PySem.W.Frag} {mg : Str → Option Value} {base : Heap} {tb : List Addr} {f : Addr} {fd : FuncData} {f_bounded_web : Addr} {fd_bounded_web : FuncData} (T : Blt mg) (D_webs_beside : DefAt K mg "webs_beside" s_webs_beside ["one", "other"] f fd) (XC : Xcs xfs K mg) (D_bounded_web : DefAt K mg "bounded_web" s_bounded_web ["points", "ties"] f_bounded_web fd_bounded_web) (G_bounded_web : FnOk P w K mg base (L2N.CX P w) 1 f_bounded_web fd_bounded_web ["points", "ties"] (sp_bounded_web K tb)) {c Pt : Addr} (TB : LamX.TabB base mg c Pt) (hcd : fd.code = .ref c) (hPt : Pt ∈ tb) :
    FnOk P w K mg base (L2N.CX P w) 7 f fd ["one", "other"] (sp_webs_beside K tb) := by
  refine D_webs_beside.okEN sc_webs_beside (fun vs H Q E h => by
    obtain ⟨v1, v2, n1, n2, ts, us, rfl, W1, W2, hn1, hn2, hl1, hl2, ho1, ho2, hT0, q0, qe⟩ := h
    all_goals rfl) fun A outer s H vs Q E hr h => ?_
  obtain ⟨v1, v2, n1, n2, ts, us, rfl, W1, W2, hn1, hn2, hl1, hl2, ho1, ho2, hT0, q0, qe⟩ := h
  refine ⟨_, pss_cons (ps_nox (ps_set (i := 2) sc_webs_beside.nd rfl (.inl rfl) (pe_tuple (k := 0) (vs := [1, 2]) (hr.mono (by decide)) (by rfl) T.b_tuple TB hcd (gxs_of (XN := nm_webs_beside) (xsc := defScope s_webs_beside) (N := ["one", "a", "b"]) (src := [some 0, none, none]) (by decide +kernel)) (pi_tup (pe_ix (ix_tupK (K := K)) (pv 1) (pe_int) (fun _ _ => rfl))) ⟨fun _ _ _ _ _ _ => tgtK (K := K) (n := 2) (pgs_cons (pg_name (i := 1) gnd_webs_beside_0 rfl (.inl rfl)) (pgs_cons (pg_name (i := 2) gnd_webs_beside_0 rfl (.inl rfl)) pgs_nil)), fun _ _ _ _ _ _ hz => pts_nil, fun _ _ _ _ _ _ hz => pe_tup (pa_cons (pe_op op_add (pe_ix (ix_tupK (K := K)) (pv 0) (pe_int) (fun _ _ => rfl)) (pv 1)) (pa_cons (pe_op op_add (pe_ix (ix_tupK (K := K)) (pv 0) (pe_int) (fun _ _ => rfl)) (pv 2)) pa_nil))⟩)))
     (pss_one (ps_ret (pe_call G_bounded_web (hr.mono (by decide)) (by rfl) D_bounded_web.g D_bounded_web.F.kp D_bounded_web.b .nil (L2N.passes_call (L2N.takes_of rfl rfl rfl rfl) fun _ _ _ _ h => h) (pa_cons (pe_op op_add (pe_ix (ix_tupK (K := K)) (pv 0) (pe_int) (fun _ _ => rfl)) (pe_ix (ix_tupK (K := K)) (pv 1) (pe_int) (fun _ _ => rfl))) (pa_cons (pe_op (catU (K := K)) (pe_ix (ix_tupK (K := K)) (pv 0) (pe_int) (fun _ _ => rfl)) (pv 2)) pa_nil))))), ?_⟩
  have LB := line_big
  obtain ⟨tw1, wu1, rs1, rfl, htw1, hwu1, hT1⟩ := id W1
  obtain ⟨tw2, wu2, rs2, rfl, htw2, hwu2, hT2⟩ := id W2
  have hr1 := hT1.length
  have hr2 := hT2.length
  refine ⟨_, rfl, tw2, _, 1, _, rfl, rfl, sqT_of htw2, atI_nat (j := 1) rfl, wu2, rfl, ⟨_, sqT_of hwu2⟩, hT0 _ hPt, fun H2 htb => ?_⟩
  have k2 := Ke.tabd (hT0 _ hPt) htb
  refine gx_it (a0 := []) (walk_tup (K := K) (a := wu2) (xs := rs2)) (fun i xs G => Ke H2 G ∧ xs.length = i ∧ Ties G xs (ledT n1 (us.take i))) ⟨.refl, rfl, .nil⟩ (fun i xs G _ hG => sqT_of (hG.1.tup (k2.tup hwu2))) (fun i x xs G G2 hi hG hy => ?_) (fun xs G hG => ?_)
  · obtain ⟨kG, hxl, hX⟩ := hG
    obtain ⟨rfl, hxi⟩ := hy
    obtain ⟨⟨a, b⟩, r, hti, rfl, hr⟩ := hT2.get hxi
    have hrG := kG.tup (k2.tup hr)
    have htG := kG.tup (k2.tup htw1)
    refine ⟨r, _, rfl, sqT_of hrG, rfl, _, _, rfl, _, [], rfl, rfl, rfl, yes_ite ?_⟩
    refine ⟨_, rfl, tw1, _, 0, _, rfl, rfl, sqT_of htG, atI_nat (j := 0) rfl, _, rfl, _, _, rfl, rfl, _, rfl, tw1, _, 0, _, rfl, rfl, sqT_of htG, atI_nat (j := 0) rfl, _, rfl, _, _, rfl, rfl, by show 2 ≤ sizeLine; decide, fun z nz => ?_⟩
    refine ⟨by omega, kG.trans (Ke.new nz), by rw [List.length_append, hxl]; rfl, ?_⟩
    rw [take_next hti]
    unfold ledT
    rw [List.map_append]
    exact (hX.new nz).append (Ties.one upd_same)
  · obtain ⟨kG, hxl, hX⟩ := hG
    rw [hr2, List.take_length] at hX
    refine ⟨by omega, fun c nc => ?_⟩
    have kc := (k2.trans kG).trans (Ke.new (o := .tup xs) nc)
    have hXc := hX.new (o := .tup xs) nc
    have gc : (upd G c (.tup xs)) c = some (.tup xs) := upd_same
    generalize upd G c _ = G3 at *
    refine ⟨_, rfl, tw1, _, 0, _, rfl, rfl, sqT_of (Ke.tup kc htw1), atI_nat (j := 0) rfl, _, rfl, tw2, _, 0, _, rfl, rfl, sqT_of (Ke.tup kc htw2), atI_nat (j := 0) rfl, _, _, rfl, rfl, _, rfl, tw1, _, 1, _, rfl, rfl, sqT_of (Ke.tup kc htw1), atI_nat (j := 1) rfl, _, rfl, wu1, c, rs1, xs, rfl, rfl, Ke.tup kc hwu1, gc, by omega, fun d H4 k4 h4 => ?_⟩
    have e : (ledT n1 us).length = us.length := List.length_map _
    exact ⟨n1 + n2, _, d, _, rfl, h4, ((hT1.ke kc).append hXc).ke k4, by omega, by rw [List.length_append, e]; omega, fun h H' v' k' W' => q0 (by rw [List.length_append, e] at h; exact h) H' v' (kc.trans (k4.trans k')) W', fun h => qe (by rw [List.length_append, e] at h; exact h) _ (kc.trans k4)⟩
theorem ok_copies_of {P : Program} {w : World} {K : PySem.W.Frag} {mg : Str → Option Value} {base : Heap} {tb : List Addr} {f : Addr} {fd : FuncData} {f_bounded_web : Addr} {fd_bounded_web : FuncData} (T : Blt mg) (D_copies_of : DefAt K mg "copies_of" s_copies_of ["web", "c"] f fd) (XC : Xcs xfs K mg) (D_bounded_web : DefAt K mg "bounded_web" s_bounded_web ["points", "ties"] f_bounded_web fd_bounded_web) (G_bounded_web : FnOk P w K mg base (L2N.CX P w) 1 f_bounded_web fd_bounded_web ["points", "ties"] (sp_bounded_web K tb)) :
    FnOk P w K mg base (L2N.CX P w) 2 f fd ["web", "c"] (sp_copies_of K tb) := by
  refine D_copies_of.okEN sc_copies_of (fun vs H Q E h => by
    obtain ⟨v, n, ts, c, rfl, W, hn, hlen, hc, q0, qe⟩ := h
    all_goals rfl) fun A outer s H vs Q E hr h => ?_
  obtain ⟨v, n, ts, c, rfl, W, hn, hlen, hc, q0, qe⟩ := h
  refine ⟨_, pss_one (ps_ret (pe_call G_bounded_web (hr.mono (by decide)) (by rfl) D_bounded_web.g D_bounded_web.F.kp D_bounded_web.b .nil (L2N.passes_call (L2N.takes_of rfl rfl rfl rfl) fun _ _ _ _ h => h) (pa_cons (pe_ix (ix_tupK (K := K)) (pv 0) (pe_int) (fun _ _ => rfl)) (pa_cons (pe_op (repE (K := K)) (pe_ix (ix_tupK (K := K)) (pv 0) (pe_int) (fun _ _ => rfl)) (pv 1)) pa_nil)))), ?_⟩
  have LB := line_big
  obtain ⟨tw, wu, rs, rfl, htw, hwu, hT⟩ := id W
  have hrl := hT.length
  have hcl : c * ts.length ≤ 120 * 120 := Nat.mul_le_mul hc hlen
  refine ⟨_, rfl, tw, _, 0, _, rfl, rfl, sqT_of htw, atI_nat (j := 0) rfl, _, rfl, tw, _, 1, _, rfl, rfl, sqT_of htw, atI_nat (j := 1) rfl, _, rfl, wu, _, rs, rfl, rfl, hwu, by omega, by omega, by omega, fun p1 H1 k1 h1 => ?_⟩
  rw [Int.toNat_natCast] at h1
  exact ⟨n, _, p1, _, rfl, h1, (hT.ke k1).reps c, by omega, by rw [reps_length]; omega, fun h H' v' k' W' => q0 (by rw [reps_length] at h; exact h.2) H' v' (k1.trans k') W', fun h => qe (by rw [reps_length] at h; omega) _ k1⟩
theorem ok_doubled_web {P : Program} {w : World} {K : PySem.W.Frag} {mg : Str → Option Value} {base : Heap} {tb : List Addr} {f : Addr} {fd : FuncData} {f_copies_of : Addr} {fd_copies_of : FuncData} (T : Blt mg) (D_doubled_web : DefAt K mg "doubled_web" s_doubled_web ["web"] f fd) (XC : Xcs xfs K mg) (D_copies_of : DefAt K mg "copies_of" s_copies_of ["web", "c"] f_copies_of fd_copies_of) (G_copies_of : FnOk P w K mg base (L2N.CX P w) 2 f_copies_of fd_copies_of ["web", "c"] (sp_copies_of K tb)) :
    FnOk P w K mg base (L2N.CX P w) 3 f fd ["web"] (sp_doubled_web K tb) := by
  refine D_doubled_web.okEN sc_doubled_web (fun vs H Q E h => by
    obtain ⟨v, n, ts, rfl, W, hn, hlen, q0, qe⟩ := h
    all_goals rfl) fun A outer s H vs Q E hr h => ?_
  obtain ⟨v, n, ts, rfl, W, hn, hlen, q0, qe⟩ := h
  refine ⟨_, pss_one (ps_ret (pe_call G_copies_of (hr.mono (by decide)) (by rfl) D_copies_of.g D_copies_of.F.kp D_copies_of.b .nil (L2N.passes_call (L2N.takes_of rfl rfl rfl rfl) fun _ _ _ _ h => h) (pa_cons (pv 0) (pa_cons (pe_int) pa_nil)))), ?_⟩
  refine ⟨_, rfl, v, n, ts, 2, rfl, W, hn, by omega, by decide, fun h H' v' k W' => q0 h H' v' k ?_, fun h H' k => qe h H' k⟩
  have e : (List.replicate 2 ts).flatten = ts ++ ts := by
    show ts ++ (ts ++ []) = _
    rw [List.append_nil]
  rw [e] at W'
  exact W'
theorem posM : (0 : Int) < 2305843009213693951 := by decide
theorem modM (x : Int) : 0 ≤ x % 2305843009213693951 ∧ x % 2305843009213693951 < 2305843009213693951 := ⟨Int.emod_nonneg _ (by decide), Int.emod_lt_of_pos _ (by decide)⟩
theorem ok__law_mixed {P : Program} {w : World} {K : PySem.W.Frag} {mg : Str → Option Value} {base : Heap} {tb : List Addr} {f : Addr} {fd : FuncData} (T : Blt mg) (D__law_mixed : DefAt K mg "_law_mixed" s_law_mixed ["_law_cell", "_law_k"] f fd) (XC : Xcs xfs K mg) :
    FnOk P w K mg base CX0 1 f fd ["_law_cell", "_law_k"] (sp__law_mixed K tb) := by
  refine D__law_mixed.ok sc__law_mixed (fun vs H Q E h => by
    obtain ⟨c, k, rfl, hk0, hk1, q⟩ := h
    all_goals rfl) fun A outer s H vs Q E hr h => ?_
  obtain ⟨c, k, rfl, hk0, hk1, q⟩ := h
  refine ⟨_, pss_cons (ps_set (i := 2) sc__law_mixed.nd rfl (.inl rfl) (pe_op op_mod (pe_op op_add (pe_op op_add (pv 0) (pe_op op_mul (pe_op op_mul (pv 1) (pv 1)) (pe_int))) (pe_int)) (pe_int)))
     (pss_cons (ps_set (i := 2) sc__law_mixed.nd rfl (.inl rfl) (pe_op op_mod (pe_op op_mul (pv 2) (pv 2)) (pe_int)))
     (pss_cons (ps_set (i := 2) sc__law_mixed.nd rfl (.inl rfl) (pe_op op_mod (pe_op op_mul (pe_op op_add (pe_op op_add (pv 2) (pe_op op_mul (pv 1) (pe_int))) (pe_int)) (pe_int)) (pe_int)))
     (pss_one (ps_ret (pe_op op_fdiv (pe_op op_mod (pe_op op_mul (pv 2) (pv 2)) (pe_int)) (pe_int)))))), ?_⟩
  refine ⟨_, rfl, _, rfl, _, rfl, _, _, rfl, rfl, .inl ⟨by omega, by omega⟩, _, _, rfl, rfl, .inr ⟨by decide, by decide⟩, _, _, rfl, rfl, _, _, rfl, rfl, _, _, rfl, rfl, posM, ?_⟩
  obtain ⟨x0, x1⟩ := modM (c + k * k * 40503 + 12345)
  refine ⟨_, rfl, _, rfl, _, _, rfl, rfl, .inl ⟨by omega, by omega⟩, _, _, rfl, rfl, posM, ?_⟩
  obtain ⟨y0, y1⟩ := modM ((c + k * k * 40503 + 12345) % 2305843009213693951 * ((c + k * k * 40503 + 12345) % 2305843009213693951))
  generalize (c + k * k * 40503 + 12345) % 2305843009213693951 * ((c + k * k * 40503 + 12345) % 2305843009213693951) = y at *
  refine ⟨_, rfl, _, rfl, _, _, rfl, rfl, .inl ⟨by omega, by omega⟩, _, _, rfl, rfl, _, _, rfl, rfl, _, _, rfl, rfl, .inl ⟨by omega, by omega⟩, _, _, rfl, rfl, posM, ?_⟩
  obtain ⟨z0, z1⟩ := modM ((y % 2305843009213693951 + k * 7919 + 1) * 48271)
  refine ⟨_, rfl, _, rfl, _, _, rfl, rfl, .inl ⟨by omega, by omega⟩, _, _, rfl, rfl, posM, _, _, rfl, rfl, ⟨by decide, by decide⟩, ?_⟩
  exact q _ (Int.ediv_nonneg (Int.emod_nonneg _ (by decide)) (by decide))
theorem own_list (ns : List Int) : ∃ own : List Int, cutV (ns.map V.int) none (some 60) ++ (List.replicate (Int.toNat (if decide (V.int ((ns.map V.int).length : Int) = V.int 0) = true then 1 else 0)) [V.int 0]).flatten = own.map V.int ∧ 0 < own.length ∧ own.length ≤ 60 := by
  have e : cutV (ns.map V.int) none (some 60) = (ns.take 60).map V.int := by
    rw [show (some (60 : Int)) = some ((60 : Nat) : Int) from rfl, cut_to, List.map_take]
  rw [e]
  cases ns with
  | nil => exact ⟨[0], rfl, by decide, by decide⟩
  | cons x r =>
    have d : decide (V.int (((x :: r).map V.int).length : Int) = V.int 0) = false := decide_eq_false fun z => by
      have z := V.int.inj z
      rw [List.length_map, List.length_cons] at z
      omega
    rw [d]
    refine ⟨(x :: r).take 60, by simp, by simp, by rw [List.length_take]; omega⟩
theorem p1000 : (0 : Int) < 1000 := by decide
theorem ok__law_deck {P : Program} {w : World} {K : PySem.W.Frag} {mg : Str → Option Value} {base : Heap} {tb : List Addr} {f : Addr} {fd : FuncData} {f__law_mixed : Addr} {fd__law_mixed : FuncData} (T : Blt mg) (D__law_deck : DefAt K mg "_law_deck" s_law_deck ["_law_script", "_law_many"] f fd) (XC : Xcs xfs K mg) (D__law_mixed : DefAt K mg "_law_mixed" s_law_mixed ["_law_cell", "_law_k"] f__law_mixed fd__law_mixed) (G__law_mixed : FnOk P w K mg base CX0 1 f__law_mixed fd__law_mixed ["_law_cell", "_law_k"] (sp__law_mixed K tb)) :
    FnOk P w K mg base CX0 2 f fd ["_law_script", "_law_many"] (sp__law_deck K tb) := by
  refine D__law_deck.ok sc__law_deck (fun vs H Q E h => by
    obtain ⟨a, ns, n, rfl, hS, hlen, hn0, hn1, q⟩ := h
    all_goals rfl) fun A outer s H vs Q E hr h => ?_
  obtain ⟨a, ns, n, rfl, hS, hlen, hn0, hn1, q⟩ := h
  refine ⟨_, pss_cons (ps_set (i := 2) sc__law_deck.nd rfl (.inl rfl) (pe_op op_cat (pe_callTy (listK (K := K)) (by rfl) T.b_list (by decide +kernel) (pa_cons (pe_slice (sl_listK (K := K)) (pv 0) po_none (po_some (pe_int))) pa_nil)) (pe_op op_rep (pe_lst (pa_cons (pe_int) pa_nil)) (pe_callTy call_int1 (by rfl) T.b_int (by decide +kernel) (pa_cons (pe_cmpR op_eq (pe_callB (lenK (K := K)) (by rfl) T.b_len PySem.boot_len (pa_cons (pv 0) pa_nil)) (pe_int) (nomark _)) pa_nil)))))
     (pss_cons (ps_setLc (i := 4) (own := [("_law_cell", 3)]) rfl sc__law_deck.nd rfl rfl (sw_true rfl rfl rfl (by decide +kernel)) (pi_list (pv 2)) (blkOk_by (own := [("_law_cell", 3)]) (N := nm__law_deck) (sc := defScope s_law_deck) (by decide +kernel)) (fun _ _ _ _ _ => pg_name (i := 3) sc__law_deck.nd rfl (.inl rfl)) (fun _ _ _ _ _ => pts_nil) (fun _ _ _ _ _ => pe_op op_mul (pv 3) (pe_callTy call_int1 (by rfl) T.b_int (by decide +kernel) (pa_cons (pe_cmpR op_ge (pv 3) (pe_op op_pow (pe_int) (pe_int)) (nomark _)) pa_nil))))
     (pss_cons (ps_set (i := 5) sc__law_deck.nd rfl (.inl rfl) (pe_lst pa_nil))
     (pss_cons (ps_for PassesOwn.never rfl (pi_range1 (by rfl) T.b_range (pa_cons (pv 1) pa_nil)) (pg_name (i := 6) sc__law_deck.nd rfl (.inl rfl))
     (pss_cons (ps_set (i := 7) sc__law_deck.nd rfl (.inl rfl) (pe_op op_mod (pv 6) (pe_callB (lenK (K := K)) (by rfl) T.b_len PySem.boot_len (pa_cons (pv 2) pa_nil))))
     (pss_one (ps_if (pt_cmpR op_gt (pe_ix (ix_listK (K := K)) (pv 4) (pv 7) (fun _ _ => rfl)) (pe_int) (nomark _))
     (pss_cons (ps_expr (pe_bm PySem.F.plainAttrs_list PySem.F.slot_list_append PySem.F.type_list_append mt_append (pv 5) (pa_cons (pe_op op_mod (pe_ix (ix_listK (K := K)) (pv 4) (pv 7) (fun _ _ => rfl)) (pe_int)) pa_nil)))
     (pss_one (ps_asg (pe_op op_fdiv (pe_ix (ix_listK (K := K)) (pv 4) (pv 7) (fun _ _ => rfl)) (pe_int)) (pg_sub (pv 4) (pv 7) set_list))))
     (pss_one (ps_expr (pe_bm PySem.F.plainAttrs_list PySem.F.slot_list_append PySem.F.type_list_append mt_append (pv 5) (pa_cons (pe_op op_mod (pe_call G__law_mixed (hr.mono (by decide)) (by rfl) D__law_mixed.g D__law_mixed.F.kp D__law_mixed.b .nil pass0 (pa_cons (pe_ix (ix_listK (K := K)) (pv 2) (pv 7) (fun _ _ => rfl)) (pa_cons (pe_op op_add (pv 6) (pe_int)) pa_nil))) (pe_int)) pa_nil))))))))
     (pss_one (ps_ret (pe_listRev rfl (by rfl) T.b_list (by rfl) T.b_reversed (pv 5))))))), ?_⟩
  -- own
  refine ⟨_, rfl, 60, rfl, a, _, rfl, hS, fun c nc => ?_⟩
  refine ⟨c, _, rfl, .inl (sqL_of upd_same), fun l nl => ?_⟩
  have k1 : Ke H (upd (upd H c (.lst (cutV (ns.map V.int) none (some 60)))) l (.lst (cutV (ns.map V.int) none (some 60)))) := (Ke.new nc).trans (Ke.new nl)
  have hl1 : (upd (upd H c (.lst (cutV (ns.map V.int) none (some 60)))) l (.lst (cutV (ns.map V.int) none (some 60)))) l = some (.lst (cutV (ns.map V.int) none (some 60))) := upd_same
  generalize (upd (upd H c (.lst (cutV (ns.map V.int) none (some 60)))) l (.lst (cutV (ns.map V.int) none (some 60)))) = Ha at *
  have hla : (ns.map V.int).length = ns.length := List.length_map ..
  refine ⟨by decide, fun z nz => ?_⟩
  refine ⟨_, rfl, a, _, rfl, .inl ((k1.trans (Ke.new nz)).seqL hS (fun z => z)), rfl, .inr ⟨_, rfl, ?_⟩⟩
  refine ⟨z, _, _, rfl, rfl, upd_same, by split <;> decide, by split <;> decide, by split <;> decide, fun r nr => ?_⟩
  have k2 : Ke Ha (upd (upd Ha z (.lst [.int 0])) r (.lst (List.replicate (Int.toNat (if decide (V.int ((ns.map V.int).length : Int) = V.int 0) then 1 else 0)) [V.int 0]).flatten)) := (Ke.new nz).trans (Ke.new nr)
  have hcl : (cutV (ns.map V.int) none (some 60)).length ≤ 63 := Nat.le_trans (cutV_length _ _ _) (by omega)
  obtain ⟨own, eown, hown0, hown1⟩ := own_list ns
  refine ⟨l, r, _, _, rfl, rfl, k2.lst hl1, upd_same, ?_, fun o no => ?_⟩
  · rw [← List.length_append, eown, List.length_map]
    have := line_big
    omega
  rw [eown]
  have k3 := (k1.trans k2).trans (Ke.new (S := fun _ => False) (o := .lst (own.map V.int)) no)
  have ho : upd (upd (upd Ha z (.lst [.int 0])) r (.lst (List.replicate (Int.toNat (if decide (V.int ((ns.map V.int).length : Int) = V.int 0) = true then 1 else 0)) [V.int 0]).flatten)) o (.lst (own.map V.int)) o = some (.lst (own.map V.int)) := upd_same
  generalize upd (upd (upd Ha z (.lst [.int 0])) r (.lst (List.replicate (Int.toNat (if decide (V.int ((ns.map V.int).length : Int) = V.int 0) = true then 1 else 0)) [V.int 0]).flatten)) o (.lst (own.map V.int)) = Hb at *
  -- rest
  refine ⟨_, rfl, o, rfl, ⟨_, sqL_of ho⟩, fun D hD => ?_⟩
  refine lc_list (K := K) (a := o) (xs := own.map V.int) (fun i G => ∃ rs : List Int, rs.length = i ∧ G = upd Hb D (.lst (rs.map V.int))) ⟨[], rfl, rfl⟩ (fun i G _ hG => ?_) (fun i x G hx hG => ?_) (fun G hG => ?_)
  · obtain ⟨rs, _, rfl⟩ := hG
    exact sqL_of (by rw [upd_ne (ne_of_none ho hD)]; exact ho)
  · obtain ⟨rs, hrs, rfl⟩ := hG
    obtain ⟨v, hv, rfl⟩ : ∃ v, own[i]? = some v ∧ x = .int v := by
      rw [List.getElem?_map] at hx
      cases e : own[i]? with
      | none => rw [e] at hx; cases hx
      | some v => rw [e] at hx; exact ⟨v, rfl, (Option.some.inj hx).symm⟩
    have hi : i < own.length := (List.getElem?_eq_some_iff.mp hv).1
    refine ⟨rfl, yes_ite ?_⟩
    refine ⟨_, rfl, _, rfl, _, _, rfl, rfl, ⟨by decide, by decide, by decide⟩, _, _, rfl, rfl, .inr ⟨_, rfl, _, _, rfl, rfl, .inr ⟨by split <;> decide, by split <;> decide⟩, _, upd_same, ?_, ?_⟩⟩
    · rw [List.length_map]
      have := line_big
      omega
    · rw [upd_upd]
      exact ⟨rs ++ [_], by rw [List.length_append, hrs]; rfl, by rw [List.map_append]; rfl⟩
  · obtain ⟨rs, hrs, rfl⟩ := hG
    rw [List.length_map] at hrs
    -- the deck
    have k4 := k3.over (o := .lst (rs.map V.int)) (k3.dom _ hD)
    have ho4 : upd Hb D (.lst (rs.map V.int)) o = some (.lst (own.map V.int)) := by rw [upd_ne (ne_of_none ho hD)]; exact ho
    refine ⟨Nat.zero_le _, fun p np => ?_⟩
    obtain ⟨npD, np0⟩ := upd_none np
    have nHD := k3.dom _ hD
    have nHp := k3.dom _ np0
    refine ⟨_, rfl, n, rfl, by omega, by omega, ?_⟩
    refine for_range (n := n.toNat) (fun i σ G => ∃ (y6 y7 : Option V) (ds rs : List Int), σ = [some (.ref a), some (.int n), some (.ref o), none, some (.ref D), some (.ref p), y6, y7] ∧ Ke H G ∧ G o = some (.lst (own.map V.int)) ∧ G D = some (.lst (rs.map V.int)) ∧ rs.length = own.length ∧ G p = some (.lst (ds.map V.int)) ∧ ds.length = i ∧ Dig ds)
      ⟨none, none, [], rs, rfl, k4.over nHp, by rw [upd_ne (ne_of_none ho4 np)]; exact ho4, by rw [upd_ne npD.symm, upd_same], hrs, upd_same, rfl, fun _ z => nomatch z⟩ (fun i σ G hi hG => ?_) (fun σ G hG => ?_)
    · obtain ⟨y6, y7, ds, rs, rfl, kG, go, gD, hrs, gp, hds, hdig⟩ := hG
      have m0 := emod_bds (0 + (i : Int)) (n := own.length) (by omega)
      have hol : ((own.map V.int).length : Int) = own.length := by rw [List.length_map]
      refine ⟨_, rfl, _, rfl, o, _, rfl, .inl (sqL_of go), _, _, rfl, rfl, by rw [hol]; omega, ?_⟩
      rw [hol]
      obtain ⟨v, _, _, ev⟩ := at_int (xs := rs) m0.1 (by rw [hrs]; exact m0.2)
      obtain ⟨u, _, _, eu⟩ := at_int (xs := own) m0.1 m0.2
      have npo : o ≠ p := ne_of_none ho4 np
      refine ⟨_, rfl, _, rfl, D, _, _, _, rfl, rfl, sqL_of gD, ev, _, _, rfl, rfl, _, rfl, ite2 (fun hc => ?_) (fun hc => ?_)⟩
      · have hv : 0 < v := of_decide_eq_true hc
        have d0 := emod_bds v (n := 1000) (by decide)
        refine ⟨_, rfl, .inl ⟨rfl, _, sqL_of gp⟩, _, rfl, _, rfl, D, _, _, _, rfl, rfl, sqL_of gD, ev, _, _, rfl, rfl, p1000, p, _, _, rfl, rfl, gp, ?_, ?_⟩
        · rw [List.length_map]
          have := line_big
          omega
        · have gD2 : upd G p (.lst (ds.map V.int ++ [.int (v % 1000)])) D = some (.lst (rs.map V.int)) := by rw [upd_ne npD.symm]; exact gD
          refine ⟨_, rfl, _, rfl, D, _, _, _, rfl, rfl, sqL_of gD2, ev, _, _, rfl, rfl, ⟨by decide, by decide⟩, _, rfl, _, rfl, D, _, _, _, rfl, rfl, gD2, ix_in m0.1 (by rw [List.length_map, hrs]; exact m0.2), ?_⟩
          refine ⟨_, _, ds ++ [v % 1000], rs.set ((0 + (i : Int)) % own.length).toNat (v / 1000), rfl, (kG.over nHp).over nHD, ?_, ?_, by rw [List.length_set]; exact hrs, ?_, by rw [List.length_append, hds]; rfl, ?_⟩
          · rw [upd_ne (ne_of_none ho hD), upd_ne npo]
            exact go
          · rw [upd_same, List.map_set]
          · rw [upd_ne npD, upd_same, List.map_append]
            rfl
          · intro d hd
            rcases List.mem_append.mp hd with hd | hd
            · exact hdig d hd
            · rw [List.mem_singleton.mp hd]
              exact d0
      · refine ⟨_, rfl, .inl ⟨rfl, _, sqL_of gp⟩, _, rfl, _, rfl, o, _, _, _, rfl, rfl, sqL_of go, eu, _, rfl, _, _, rfl, rfl, _, _, rfl, by omega, by omega, fun rr hr0 => ?_⟩
        have d0 := emod_bds rr (n := 1000) (by decide)
        refine ⟨_, _, rfl, rfl, p1000, p, _, _, rfl, rfl, gp, ?_, ?_⟩
        · rw [List.length_map]
          have := line_big
          omega
        · refine ⟨_, _, ds ++ [rr % 1000], rs, rfl, kG.over nHp, ?_, ?_, hrs, ?_, by rw [List.length_append, hds]; rfl, ?_⟩
          · rw [upd_ne npo]
            exact go
          · rw [upd_ne npD.symm]
            exact gD
          · rw [upd_same, List.map_append]
            rfl
          · intro d hd
            rcases List.mem_append.mp hd with hd | hd
            · exact hdig d hd
            · rw [List.mem_singleton.mp hd]
              exact d0
    · obtain ⟨y6, y7, ds, rs, rfl, kG, go, gD, hrs, gp, hds, hdig⟩ := hG
      refine ⟨_, rfl, p, _, rfl, sqL_of gp, fun e ne => ?_⟩
      exact q e _ (kG.dom _ ne) (kG.trans (Ke.new ne)) ⟨ds.reverse, by rw [upd_same, List.map_reverse], fun d hd => hdig d (List.mem_reverse.mp hd)⟩
theorem ok__law_next {P : Program} {w : World} {K : PySem.W.Frag} {mg : Str → Option Value} {base : Heap} {tb : List Addr} {f : Addr} {fd : FuncData} (T : Blt mg) (D__law_next : DefAt K mg "_law_next" s_law_next ["_law_deck_here"] f fd) (XC : Xcs xfs K mg) :
    FnOk P w K mg base CX0 1 f fd ["_law_deck_here"] (sp__law_next K tb) := by
  refine D__law_next.ok sc__law_next (fun vs H Q E h => by
    obtain ⟨p, rfl, hd, q⟩ := h
    all_goals rfl) fun A outer s H vs Q E hr h => ?_
  obtain ⟨p, rfl, hd, q⟩ := h
  refine ⟨_, pss_cons (ps_if (pt_cmpR op_gt (pe_callB (lenK (K := K)) (by rfl) T.b_len PySem.boot_len (pa_cons (pv 0) pa_nil)) (pe_int) (nomark _))
     (pss_one (ps_ret (pe_bm0 PySem.F.plainAttrs_list PySem.F.slot_list_pop PySem.F.type_list_pop mt_pop (pv 0))))
     (pss_nil))
     (pss_one (ps_ret (pe_int))), ?_⟩
  obtain ⟨ds, hp, hg⟩ := id hd
  refine ⟨_, rfl, p, ds.map V.int, rfl, .inl (sqL_of hp), _, _, rfl, rfl, _, rfl, ite2 (fun e => ?_) (fun e => ?_)⟩
  · have hl : 0 < ds.length := by
      have h0 := of_decide_eq_true e
      rw [List.length_map] at h0
      omega
    have hlast : (ds.map V.int)[(ds.map V.int).length - 1]? = some (.int ds[ds.length - 1]) := by
      rw [List.length_map, List.getElem?_map, List.getElem?_eq_getElem (by omega)]
      rfl
    refine ⟨_, rfl, .inl ⟨rfl, _, sqL_of hp⟩, p, ds.map V.int, _, rfl, rfl, hp, hlast, ?_⟩
    have hm : ds[ds.length - 1] ∈ ds := List.getElem_mem _
    refine q _ _ (hg _ hm).1 (hg _ hm).2 ⟨Ke.put hp (fun _ z => nomatch z), ds.dropLast, ?_, fun d h => hg d (List.dropLast_subset _ h)⟩
    rw [upd_same, List.map_dropLast]
  · exact q 0 H (by decide) (by decide) (.refl hd)
theorem tie_ne {a r n : Int} (hn : 2 ≤ n) (a0 : 0 ≤ a) (a1 : a < n) (r0 : 0 ≤ r) (r1 : r < n - 1) : (a + 1 + r) % n ≠ a := by
  intro h
  by_cases c : a + 1 + r < n
  · rw [Int.emod_eq_of_lt (by omega) c] at h
    omega
  · have e : (a + 1 + r) % n = a + 1 + r - n := by
      rw [← Int.sub_emod_right, Int.emod_eq_of_lt (by omega) (by omega)]
    omega
theorem ok__law_tie {P : Program} {w : World} {K : PySem.W.Frag} {mg : Str → Option Value} {base : Heap} {tb : List Addr} {f : Addr} {fd : FuncData} {f__law_next : Addr} {fd__law_next : FuncData} (T : Blt mg) (D__law_tie : DefAt K mg "_law_tie" s_law_tie ["_law_deck_here", "_law_points"] f fd) (XC : Xcs xfs K mg) (D__law_next : DefAt K mg "_law_next" s_law_next ["_law_deck_here"] f__law_next fd__law_next) (G__law_next : FnOk P w K mg base CX0 1 f__law_next fd__law_next ["_law_deck_here"] (sp__law_next K tb)) :
    FnOk P w K mg base CX0 2 f fd ["_law_deck_here", "_law_points"] (sp__law_tie K tb) := by
  refine D__law_tie.ok sc__law_tie (fun vs H Q E h => by
    obtain ⟨p, n, rfl, hd, hn, q⟩ := h
    all_goals rfl) fun A outer s H vs Q E hr h => ?_
  obtain ⟨p, n, rfl, hd, hn, q⟩ := h
  refine ⟨_, pss_cons (ps_set (i := 2) sc__law_tie.nd rfl (.inl rfl) (pe_op op_mod (pe_call G__law_next (hr.mono (by decide)) (by rfl) D__law_next.g D__law_next.F.kp D__law_next.b .nil pass0 (pa_cons (pv 0) pa_nil)) (pv 1)))
     (pss_cons (ps_set (i := 3) sc__law_tie.nd rfl (.inl rfl) (pe_op op_mod (pe_op op_add (pe_op op_add (pv 2) (pe_int)) (pe_op op_mod (pe_call G__law_next (hr.mono (by decide)) (by rfl) D__law_next.g D__law_next.F.kp D__law_next.b .nil pass0 (pa_cons (pv 0) pa_nil)) (pe_op op_sub (pv 1) (pe_int)))) (pv 1)))
     (pss_one (ps_ret (pe_tup (pa_cons (pe_callB (call_min2 rfl) (by rfl) T.b_min (by decide +kernel) (pa_cons (pv 2) (pa_cons (pv 3) pa_nil))) (pa_cons (pe_callB (call_max2 rfl) (by rfl) T.b_max (by decide +kernel) (pa_cons (pv 2) (pa_cons (pv 3) pa_nil))) pa_nil)))))), ?_⟩
  refine ⟨_, rfl, p, rfl, hd, fun r1 H1 a0 a1 k1 => ?_⟩
  refine ⟨_, rfl, _, _, rfl, rfl, by omega, ?_⟩
  have b0 : 0 ≤ r1 % n := Int.emod_nonneg _ (by omega)
  have b1 : r1 % n < n := Int.emod_lt_of_pos _ (by omega)
  refine ⟨_, rfl, _, _, rfl, rfl, _, rfl, p, rfl, k1.d, fun r2 H2 c0 c1 k2 => ?_⟩
  refine ⟨_, rfl, _, _, rfl, rfl, _, _, rfl, rfl, by omega, _, _, rfl, rfl, _, rfl, _, _, rfl, rfl, by omega, ?_⟩
  have e0 : 0 ≤ r2 % (n - 1) := Int.emod_nonneg _ (by omega)
  have e1 : r2 % (n - 1) < n - 1 := Int.emod_lt_of_pos _ (by omega)
  have hne := tie_ne hn b0 b1 e0 e1
  have d0 : 0 ≤ (r1 % n + 1 + r2 % (n - 1)) % n := Int.emod_nonneg _ (by omega)
  have d1 : (r1 % n + 1 + r2 % (n - 1)) % n < n := Int.emod_lt_of_pos _ (by omega)
  refine ⟨_, rfl, _, rfl, _, _, rfl, _, rfl, _, rfl, _, _, rfl, by show 2 ≤ sizeLine; decide, fun t ht => ?_⟩
  exact q _ _ t H2 (by split <;> omega) (by split <;> split <;> omega) (by split <;> omega) (k1.trans k2) ht
theorem ok__law_any_web {P : Program} {w : World} {K : PySem.W.Frag} {mg : Str → Option Value} {base : Heap} {tb : List Addr} {f : Addr} {fd : FuncData} {f__law_next : Addr} {fd__law_next : FuncData} {f__law_tie : Addr} {fd__law_tie : FuncData} (T : Blt mg) (D__law_any_web : DefAt K mg "_law_any_web" s_law_any_web ["_law_deck_here", "_law_points", "_law_most"] f fd) (XC : Xcs xfs K mg) (D__law_next : DefAt K mg "_law_next" s_law_next ["_law_deck_here"] f__law_next fd__law_next) (G__law_next : FnOk P w K mg base CX0 1 f__law_next fd__law_next ["_law_deck_here"] (sp__law_next K tb)) (D__law_tie : DefAt K mg "_law_tie" s_law_tie ["_law_deck_here", "_law_points"] f__law_tie fd__law_tie) (G__law_tie : FnOk P w K mg base CX0 2 f__law_tie fd__law_tie ["_law_deck_here", "_law_points"] (sp__law_tie K tb)) :
    FnOk P w K mg base CX0 3 f fd ["_law_deck_here", "_law_points", "_law_most"] (sp__law_any_web K tb) := by
  refine D__law_any_web.ok sc__law_any_web (fun vs H Q E h => by
    obtain ⟨p, n, m, rfl, hd, hn0, hn1, hm0, hm1, q⟩ := h
    all_goals rfl) fun A outer s H vs Q E hr h => ?_
  obtain ⟨p, n, m, rfl, hd, hn0, hn1, hm0, hm1, q⟩ := h
  refine ⟨_, pss_cons (ps_set (i := 3) sc__law_any_web.nd rfl (.inl rfl) (pe_lst pa_nil))
     (C8.pss_cut (ps_if (pt_cmpR op_gt (pv 1) (pe_int) (nomark _))
     (pss_one (ps_setLc (i := 3) (own := [("_law_k", 4)]) rfl sc__law_any_web.nd rfl rfl (sw_true rfl rfl rfl (by decide +kernel)) (pi_range1 (by rfl) T.b_range (pa_cons (pe_op op_mod (pe_call G__law_next (hr.mono (by decide)) (by rfl) D__law_next.g D__law_next.F.kp D__law_next.b .nil pass0 (pa_cons (pv 0) pa_nil)) (pe_op op_add (pv 2) (pe_int))) pa_nil)) (blkOk_by (own := [("_law_k", 4)]) (N := nm__law_any_web) (sc := defScope s_law_any_web) (by decide +kernel)) (fun _ _ _ _ _ => pg_name (i := 4) sc__law_any_web.nd rfl (.inl rfl)) (fun _ _ _ _ _ => pts_nil) (fun _ _ _ _ _ => pe_call G__law_tie (hr.mono (by decide)) (by rfl) D__law_tie.g D__law_tie.F.kp D__law_tie.b .nil pass0 (pa_cons (pv 0) (pa_cons (pv 1) pa_nil)))))
     (pss_nil))
     (pss_one (ps_ret (pe_tup (pa_cons (pv 1) (pa_cons (pe_callTy (tupleK (K := K)) (by rfl) T.b_tuple (by decide +kernel) (pa_cons (pv 3) pa_nil)) pa_nil)))))), ?_⟩
  refine ⟨Nat.zero_le _, fun l nl => ?_⟩
  have k0 : Dk p H (upd H l (.lst [])) := (Dk.refl hd).new nl
  refine ⟨fun σ G => ∃ (y : Option V) (l' : Addr) (ts : List (Int × Int)), σ = [some (.ref p), some (.int n), some (.int m), some (.ref l'), y] ∧ Dk p H G ∧ TL G l' ts ∧ (ts.length : Int) ≤ m ∧ TOk n ts ∧ (n = 1 → ts = []), ?_, fun σ G hG => ?_⟩
  · refine ⟨_, rfl, _, _, rfl, rfl, _, rfl, ite2 (fun e => ?_) (fun e => ?_)⟩
    · have hn : 2 ≤ n := by
        have := of_decide_eq_true e
        omega
      refine ⟨_, rfl, p, rfl, k0.d, fun r H1 r0 r1 k1 => ?_⟩
      have e1 := emod_bds r (n := m + 1) (by omega)
      refine ⟨_, rfl, _, _, rfl, rfl, _, _, rfl, rfl, by omega, _, rfl, by omega, by omega, fun D hD => ?_⟩
      have k01 := k0.trans k1
      have nD := k01.k.dom _ hD
      refine lc_range (lo := 0) (n := (r % (m + 1)).toNat) (fun i G => ∃ (rs : List V) (ts : List (Int × Int)), G D = some (.lst rs) ∧ Ties G rs ts ∧ ts.length = i ∧ TOk n ts ∧ Dk p H G) ⟨[], [], upd_same, .nil, rfl, TOk.nil, k01.over hd nD⟩ (fun i G hi hG => ?_) (fun G hG => ?_)
      · obtain ⟨rs, ts, gD, gT, hl, hok, kG⟩ := hG
        refine ⟨rfl, yes_ite ?_⟩
        refine ⟨_, rfl, _, rfl, p, n, rfl, kG.d, hn, fun a b t G1 a0 ab b1 kG1 nt => ?_⟩
        have nDp : D ≠ p := (hd.ne nD).symm
        have gD1 : G1 D = some (.lst rs) := kG1.lst gD nDp
        have gD2 : upd G1 t (.tup [.int a, .int b]) D = some (.lst rs) := by rw [upd_ne (ne_of_none gD1 nt)]; exact gD1
        refine ⟨rs, gD2, ?_, rs ++ [.ref t], ts ++ [(a, b)], upd_same, ((((gT.dk kG1 kG.d).new nt).append (Ties.one upd_same)).put gD2), by rw [List.length_append, hl]; rfl, hok.append (TOk.one a0 ab b1), ((kG.trans kG1).new nt).over hd nD⟩
        rw [gT.length, hl]
        have := line_big
        omega
      · obtain ⟨rs, ts, gD, gT, hl, hok, kG⟩ := hG
        exact ⟨_, D, ts, rfl, kG, ⟨rs, gD, gT⟩, by omega, hok, fun z => absurd z (by omega)⟩
    · exact ⟨_, l, [], rfl, k0, ⟨[], upd_same, .nil⟩, by simpa using hm0, TOk.nil, fun _ => rfl⟩
  · obtain ⟨y, l', ts, rfl, kG, ⟨rs, gl, gT⟩, hlen, hok, h1⟩ := hG
    refine ⟨_, rfl, _, rfl, l', _, rfl, .inl ⟨sqL_of gl, fun u nu => ?_⟩⟩
    refine ⟨by show 2 ≤ sizeLine; decide, fun t nt => ?_⟩
    refine q _ _ ts ((kG.new nu).new nt) ⟨t, u, rs, rfl, upd_same, ?_, (gT.new nu).new nt⟩ hlen hok h1
    rw [upd_ne (upd_none nt).1.symm, upd_same]
theorem ok__law_round {P : Program} {w : World} {K : PySem.W.Frag} {mg : Str → Option Value} {base : Heap} {tb : List Addr} {f : Addr} {fd : FuncData} (T : Blt mg) (D__law_round : DefAt K mg "_law_round" s_law_round ["_law_points"] f fd) (XC : Xcs xfs K mg) :
    FnOk P w K mg base CX0 1 f fd ["_law_points"] (sp__law_round K tb) := by
  refine D__law_round.ok sc__law_round (fun vs H Q E h => by
    obtain ⟨n, rfl, hn0, hn1, q⟩ := h
    all_goals rfl) fun A outer s H vs Q E hr h => ?_
  obtain ⟨n, rfl, hn0, hn1, q⟩ := h
  refine ⟨_, pss_one (ps_ret (pe_op op_cat (pe_lc (own := [("_law_k", 1)]) rfl sc__law_round.nd (pi_range1 (by rfl) T.b_range (pa_cons (pe_op op_sub (pv 0) (pe_int)) pa_nil)) (blkOk_by (own := [("_law_k", 1)]) (N := nm__law_round) (sc := defScope s_law_round) (by decide +kernel)) (fun _ _ _ _ _ => pg_name (i := 1) sc__law_round.nd rfl (.inl rfl)) (fun _ _ _ _ _ => pts_nil) (fun _ _ _ _ _ => pe_tup (pa_cons (pv 1) (pa_cons (pe_op op_add (pv 1) (pe_int)) pa_nil)))) (pe_op op_rep (pe_lst (pa_cons (pe_tup (pa_cons (pe_int) (pa_cons (pe_op op_sub (pv 0) (pe_int)) pa_nil))) pa_nil)) (pe_callTy call_int1 (by rfl) T.b_int (by decide +kernel) (pa_cons (pe_cmpR op_gt (pv 0) (pe_int) (nomark _)) pa_nil))))), ?_⟩
  refine ⟨_, rfl, _, _, rfl, rfl, _, rfl, by omega, by omega, fun D hD => ?_⟩
  refine lc_range (lo := 0) (n := (n - 1).toNat) (fun i G => ∃ (rs : List V) (ts : List (Int × Int)), G D = some (.lst rs) ∧ Ties G rs ts ∧ ts.length = i ∧ TOk n ts ∧ Ke H G) ⟨[], [], upd_same, .nil, rfl, TOk.nil, Ke.new hD⟩ (fun i G hi hG => ?_) (fun G hG => ?_)
  · obtain ⟨rs, ts, gD, gT, hl, hok, kG⟩ := hG
    refine ⟨rfl, yes_ite ?_⟩
    refine ⟨_, rfl, _, rfl, _, _, rfl, rfl, by show 2 ≤ sizeLine; decide, fun t nt => ?_⟩
    have gD2 : upd G t (.tup [.int (0 + (i : Int)), .int (0 + (i : Int) + 1)]) D = some (.lst rs) := by rw [upd_ne (ne_of_none gD nt)]; exact gD
    refine ⟨rs, gD2, ?_, rs ++ [.ref t], ts ++ [(0 + (i : Int), 0 + (i : Int) + 1)], upd_same, (((gT.new nt).append (Ties.one upd_same)).put gD2), by rw [List.length_append, hl]; rfl, hok.append (TOk.one (by omega) (by omega) (by omega)), (kG.trans (Ke.new nt)).over hD⟩
    rw [gT.length, hl]
    have := line_big
    omega
  · obtain ⟨rs, ts, gD, gT, hl, hok, kG⟩ := hG
    refine ⟨_, rfl, _, _, rfl, rfl, by show 2 ≤ sizeLine; decide, fun t nt => ⟨by show 1 ≤ sizeLine; decide, fun z nz => ?_⟩⟩
    refine ⟨_, rfl, _, _, rfl, rfl, .inr ⟨_, rfl, ?_⟩⟩
    refine ⟨z, _, _, rfl, rfl, upd_same, by split <;> decide, by split <;> decide, by split <;> (show 1 * _ ≤ sizeLine; decide), fun r nr => ?_⟩
    have k1 : Ke G _ := ((Ke.new (S := fun _ => False) (o := .tup [.int 0, .int (n - 1)]) nt).trans (Ke.new (o := .lst [.ref t]) nz)).trans (Ke.new (o := .lst (List.replicate (Int.toNat (if decide (n > 2) = true then 1 else 0)) [V.ref t]).flatten) nr)
    have ht : upd (upd (upd G t (.tup [.int 0, .int (n - 1)])) z (.lst [.ref t])) r (.lst (List.replicate (Int.toNat (if decide (n > 2) = true then 1 else 0)) [V.ref t]).flatten) t = some (.tup [.int 0, .int (n - 1)]) := by
      rw [upd_ne, upd_ne (upd_none nz).1.symm, upd_same]
      exact fun e => by
        rw [← e, upd_ne (upd_none nz).1.symm, upd_same] at nr
        cases nr
    obtain ⟨us, hus, hul, huo⟩ : ∃ us : List (Int × Int), Ties (upd (upd (upd G t (.tup [.int 0, .int (n - 1)])) z (.lst [.ref t])) r (.lst (List.replicate (Int.toNat (if decide (n > 2) = true then 1 else 0)) [V.ref t]).flatten)) (List.replicate (Int.toNat (if decide (n > 2) = true then 1 else 0)) [V.ref t]).flatten us ∧ us.length ≤ 1 ∧ TOk n us := by
      by_cases h2 : n > 2
      · refine ⟨[(0, n - 1)], ?_, Nat.le_refl _, TOk.one (by decide) (by omega) (by omega)⟩
        have e : (List.replicate (Int.toNat (if decide (n > 2) = true then 1 else 0)) [V.ref t]).flatten = [V.ref t] := by rw [decide_eq_true h2]; rfl
        rw [e] at ht ⊢
        exact Ties.one ht
      · refine ⟨[], ?_, by decide, TOk.nil⟩
        have e : (List.replicate (Int.toNat (if decide (n > 2) = true then 1 else 0)) [V.ref t]).flatten = [] := by rw [decide_eq_false h2]; rfl
        rw [e]
        exact .nil
    have gT1 := gT.ke k1
    have gD1 := k1.lst gD
    have hr : upd (upd (upd G t (.tup [.int 0, .int (n - 1)])) z (.lst [.ref t])) r (.lst (List.replicate (Int.toNat (if decide (n > 2) = true then 1 else 0)) [V.ref t]).flatten) r = some (.lst (List.replicate (Int.toNat (if decide (n > 2) = true then 1 else 0)) [V.ref t]).flatten) := upd_same
    have kH := kG.trans k1
    generalize upd (upd (upd G t (.tup [.int 0, .int (n - 1)])) z (.lst [.ref t])) r (.lst (List.replicate (Int.toNat (if decide (n > 2) = true then 1 else 0)) [V.ref t]).flatten) = Hz at *
    refine ⟨D, r, _, _, rfl, rfl, gD1, hr, ?_, fun l nl => ?_⟩
    · rw [gT1.length, hus.length, hl]
      have := line_big
      omega
    · refine q _ l (ts ++ us) (kH.trans (Ke.new nl)) (kH.dom _ nl) ⟨_, upd_same, (gT1.append hus).new nl⟩ ?_ (hok.append huo)
      rw [List.length_append]
      omega
theorem ok__law_full {P : Program} {w : World} {K : PySem.W.Frag} {mg : Str → Option Value} {base : Heap} {tb : List Addr} {f : Addr} {fd : FuncData} (T : Blt mg) (D__law_full : DefAt K mg "_law_full" s_law_full ["_law_points"] f fd) (XC : Xcs xfs K mg) :
    FnOk P w K mg base CX0 1 f fd ["_law_points"] (sp__law_full K tb) := by
  refine D__law_full.ok sc__law_full (fun vs H Q E h => by
    obtain ⟨n, rfl, hn0, hn1, q⟩ := h
    all_goals rfl) fun A outer s H vs Q E hr h => ?_
  obtain ⟨n, rfl, hn0, hn1, q⟩ := h
  refine ⟨_, pss_cons (ps_set (i := 1) sc__law_full.nd rfl (.inl rfl) (pe_lst pa_nil))
     (pss_cons (ps_for PassesOwn.never rfl (pi_range1 (by rfl) T.b_range (pa_cons (pv 0) pa_nil)) (pg_name (i := 2) sc__law_full.nd rfl (.inr rfl))
     (pss_one (ps_set (i := 1) sc__law_full.nd rfl (.inl rfl) (pe_op op_cat (pv 1) (pe_lc (own := [("_law_a", 3)]) rfl sc__law_full.nd (pi_range1 (by rfl) T.b_range (pa_cons (pv 2) pa_nil)) (blkOk_by (own := [("_law_a", 3)]) (N := nm__law_full) (sc := defScope s_law_full) (by decide +kernel)) (fun _ _ _ _ _ => pg_name (i := 3) sc__law_full.nd rfl (.inl rfl)) (fun _ _ _ _ _ => pts_nil) (fun _ _ _ _ _ => pe_tup (pa_cons (pv 3) (pa_cons (pv 2) pa_nil))))))))
     (pss_one (ps_ret (pv 1)))), ?_⟩
  refine ⟨Nat.zero_le _, fun l0 nl0 => ?_⟩
  refine ⟨_, rfl, n, rfl, by omega, by omega, ?_⟩
  refine for_range (n := n.toNat) (fun i σ G => ∃ (y2 y3 : Option V) (l : Addr) (ts : List (Int × Int)), σ = [some (.int n), some (.ref l), y2, y3] ∧ Ke H G ∧ H l = none ∧ TL G l ts ∧ ts.length ≤ 100 * i ∧ TOk n ts)
    ⟨none, none, l0, [], rfl, Ke.new nl0, nl0, ⟨[], upd_same, .nil⟩, Nat.zero_le _, TOk.nil⟩ (fun i σ G hi hG => ?_) (fun σ G hG => ?_)
  · obtain ⟨y2, y3, l, ts, rfl, kG, nl, ⟨rs, gl, gT⟩, hlen, hok⟩ := hG
    refine ⟨_, rfl, _, rfl, _, rfl, by omega, by omega, fun D hD => ?_⟩
    have nHD := kG.dom _ hD
    refine lc_range (lo := 0) (n := (0 + (i : Int)).toNat) (fun j G' => ∃ (qs : List V) (us : List (Int × Int)), G' D = some (.lst qs) ∧ Ties G' qs us ∧ us.length = j ∧ TOk n us ∧ Ke G G') ⟨[], [], upd_same, .nil, rfl, TOk.nil, Ke.new hD⟩ (fun j G' hj hG' => ?_) (fun G' hG' => ?_)
    · obtain ⟨qs, us, gD, gU, hul, huo, kU⟩ := hG'
      refine ⟨rfl, yes_ite ?_⟩
      refine ⟨_, rfl, _, rfl, by show 2 ≤ sizeLine; decide, fun t nt => ?_⟩
      have gD2 : upd G' t (.tup [.int (0 + (j : Int)), .int (0 + (i : Int))]) D = some (.lst qs) := by rw [upd_ne (ne_of_none gD nt)]; exact gD
      refine ⟨qs, gD2, ?_, qs ++ [.ref t], us ++ [(0 + (j : Int), 0 + (i : Int))], upd_same, (((gU.new nt).append (Ties.one upd_same)).put gD2), by rw [List.length_append, hul]; rfl, huo.append (TOk.one (by omega) (by omega) (by omega)), (kU.trans (Ke.new nt)).over hD⟩
      rw [gU.length, hul]
      have := line_big
      omega
    · obtain ⟨qs, us, gD, gU, hul, huo, kU⟩ := hG'
      refine ⟨l, D, _, _, rfl, rfl, kU.lst gl, gD, ?_, fun l2 nl2 => ?_⟩
      · rw [gT.length, gU.length, hul]
        have := line_big
        omega
      · refine ⟨_, _, l2, ts ++ us, rfl, (kG.trans kU).trans (Ke.new nl2), (kG.trans kU).dom _ nl2, ⟨_, upd_same, ((gT.ke kU).append gU).new nl2⟩, ?_, hok.append huo⟩
        rw [List.length_append]
        omega
  · obtain ⟨y2, y3, l, ts, rfl, kG, nl, ht, hlen, hok⟩ := hG
    exact ⟨_, rfl, q _ l ts kG nl ht (by omega) hok⟩
theorem ok__law_tree {P : Program} {w : World} {K : PySem.W.Frag} {mg : Str → Option Value} {base : Heap} {tb : List Addr} {f : Addr} {fd : FuncData} {f__law_next : Addr} {fd__law_next : FuncData} (T : Blt mg) (D__law_tree : DefAt K mg "_law_tree" s_law_tree ["_law_deck_here", "_law_points"] f fd) (XC : Xcs xfs K mg) (D__law_next : DefAt K mg "_law_next" s_law_next ["_law_deck_here"] f__law_next fd__law_next) (G__law_next : FnOk P w K mg base CX0 1 f__law_next fd__law_next ["_law_deck_here"] (sp__law_next K tb)) :
    FnOk P w K mg base CX0 2 f fd ["_law_deck_here", "_law_points"] (sp__law_tree K tb) := by
  refine D__law_tree.ok sc__law_tree (fun vs H Q E h => by
    obtain ⟨p, n, rfl, hd, hn0, hn1, q⟩ := h
    all_goals rfl) fun A outer s H vs Q E hr h => ?_
  obtain ⟨p, n, rfl, hd, hn0, hn1, q⟩ := h
  refine ⟨_, pss_one (ps_ret (pe_lc (own := [("_law_k", 2)]) rfl sc__law_tree.nd (pi_range2 (by rfl) T.b_range (pa_cons (pe_int) (pa_cons (pv 1) pa_nil))) (blkOk_by (own := [("_law_k", 2)]) (N := nm__law_tree) (sc := defScope s_law_tree) (by decide +kernel)) (fun _ _ _ _ _ => pg_name (i := 2) sc__law_tree.nd rfl (.inl rfl)) (fun _ _ _ _ _ => pts_nil) (fun _ _ _ _ _ => pe_tup (pa_cons (pe_op op_mod (pe_call G__law_next (hr.mono (by decide)) (by rfl) D__law_next.g D__law_next.F.kp D__law_next.b .nil pass0 (pa_cons (pv 0) pa_nil)) (pv 2)) (pa_cons (pv 2) pa_nil))))), ?_⟩
  refine ⟨_, rfl, 1, n, rfl, ⟨by omega, by omega, by omega, by omega⟩, fun D hD => ?_⟩
  refine lc_range (lo := 1) (n := (n - 1).toNat) (fun i G => ∃ (rs : List V) (ts : List (Int × Int)), G D = some (.lst rs) ∧ Ties G rs ts ∧ ts.length = i ∧ TOk n ts ∧ Dk p H G) ⟨[], [], upd_same, .nil, rfl, TOk.nil, (Dk.refl hd).new hD⟩ (fun i G hi hG => ?_) (fun G hG => ?_)
  · obtain ⟨rs, ts, gD, gT, hl, hok, kG⟩ := hG
    refine ⟨rfl, yes_ite ?_⟩
    refine ⟨_, rfl, p, rfl, kG.d, fun r G1 r0 r1 kG1 => ?_⟩
    have e1 := emod_bds r (n := 1 + (i : Int)) (by omega)
    refine ⟨_, rfl, _, _, rfl, rfl, by omega, _, rfl, by show 2 ≤ sizeLine; decide, fun t nt => ?_⟩
    have nDp : D ≠ p := (hd.ne hD).symm
    have gD1 : G1 D = some (.lst rs) := kG1.lst gD nDp
    have gD2 : upd G1 t (.tup [.int (r % (1 + (i : Int))), .int (1 + (i : Int))]) D = some (.lst rs) := by rw [upd_ne (ne_of_none gD1 nt)]; exact gD1
    refine ⟨rs, gD2, ?_, rs ++ [.ref t], ts ++ [(r % (1 + (i : Int)), 1 + (i : Int))], upd_same, ((((gT.dk kG1 kG.d).new nt).append (Ties.one upd_same)).put gD2), by rw [List.length_append, hl]; rfl, hok.append (TOk.one e1.1 e1.2 (by omega)), ((kG.trans kG1).new nt).over hd hD⟩
    rw [gT.length, hl]
    have := line_big
    omega
  · obtain ⟨rs, ts, gD, gT, hl, hok, kG⟩ := hG
    exact q _ D ts kG hD ⟨rs, gD, gT⟩ (by omega) hok
theorem ok__law_web {P : Program} {w : World} {K : PySem.W.Frag} {mg : Str → Option Value} {base : Heap} {tb : List Addr} {f : Addr} {fd : FuncData} {f__law_next : Addr} {fd__law_next : FuncData} {f__law_any_web : Addr} {fd__law_any_web : FuncData} {f__law_round : Addr} {fd__law_round : FuncData} {f__law_full : Addr} {fd__law_full : FuncData} {f__law_tree : Addr} {fd__law_tree : FuncData} (T : Blt mg) (D__law_web : DefAt K mg "_law_web" s_law_web ["_law_deck_here", "_law_points", "_law_most"] f fd) (XC : Xcs xfs K mg) (D__law_next : DefAt K mg "_law_next" s_law_next ["_law_deck_here"] f__law_next fd__law_next) (G__law_next : FnOk P w K mg base CX0 1 f__law_next fd__law_next ["_law_deck_here"] (sp__law_next K tb)) (D__law_any_web : DefAt K mg "_law_any_web" s_law_any_web ["_law_deck_here", "_law_points", "_law_most"] f__law_any_web fd__law_any_web) (G__law_any_web : FnOk P w K mg base CX0 3 f__law_any_web fd__law_any_web ["_law_deck_here", "_law_points", "_law_most"] (sp__law_any_web K tb)) (D__law_round : DefAt K mg "_law_round" s_law_round ["_law_points"] f__law_round fd__law_round) (G__law_round : FnOk P w K mg base CX0 1 f__law_round fd__law_round ["_law_points"] (sp__law_round K tb)) (D__law_full : DefAt K mg "_law_full" s_law_full ["_law_points"] f__law_full fd__law_full) (G__law_full : FnOk P w K mg base CX0 1 f__law_full fd__law_full ["_law_points"] (sp__law_full K tb)) (D__law_tree : DefAt K mg "_law_tree" s_law_tree ["_law_deck_here", "_law_points"] f__law_tree fd__law_tree) (G__law_tree : FnOk P w K mg base CX0 2 f__law_tree fd__law_tree ["_law_deck_here", "_law_points"] (sp__law_tree K tb)) :
    FnOk P w K mg base CX0 4 f fd ["_law_deck_here", "_law_points", "_law_most"] (sp__law_web K tb) := by
  refine D__law_web.ok sc__law_web (fun vs H Q E h => by
    obtain ⟨p, M, m, rfl, hd, hM0, hM1, hm0, hm1, q⟩ := h
    all_goals rfl) fun A outer s H vs Q E hr h => ?_
  obtain ⟨p, M, m, rfl, hd, hM0, hM1, hm0, hm1, q⟩ := h
  refine ⟨_, pss_cons (ps_set (i := 3) sc__law_web.nd rfl (.inl rfl) (pe_op op_mod (pe_call G__law_next (hr.mono (by decide)) (by rfl) D__law_next.g D__law_next.F.kp D__law_next.b .nil pass0 (pa_cons (pv 0) pa_nil)) (pe_int)))
     (pss_cons (ps_set (i := 4) sc__law_web.nd rfl (.inl rfl) (pe_op op_add (pe_int) (pe_op op_mod (pe_call G__law_next (hr.mono (by decide)) (by rfl) D__law_next.g D__law_next.F.kp D__law_next.b .nil pass0 (pa_cons (pv 0) pa_nil)) (pv 1))))
     (pss_cons (ps_if (PW.pt (pw_or (pt_cmpR op_lt (pv 3) (pe_int) (nomark _)) (pw_or1 (pt_cmpR op_eq (pv 4) (pe_int) (nomark _)))))
     (pss_one (ps_ret (pe_call G__law_any_web (hr.mono (by decide)) (by rfl) D__law_any_web.g D__law_any_web.F.kp D__law_any_web.b .nil pass0 (pa_cons (pv 0) (pa_cons (pv 4) (pa_cons (pv 2) pa_nil))))))
     (pss_nil))
     (pss_cons (ps_set (i := 5) sc__law_web.nd rfl (.inl rfl) (pe_callTy (listK (K := K)) (by rfl) T.b_list (by decide +kernel) (pa_cons (pe_ix (ix_tupK (K := K)) (pe_call G__law_any_web (hr.mono (by decide)) (by rfl) D__law_any_web.g D__law_any_web.F.kp D__law_any_web.b .nil pass0 (pa_cons (pv 0) (pa_cons (pv 4) (pa_cons (pe_int) pa_nil)))) (pe_int) (fun _ _ => rfl)) pa_nil)))
     (C8.pss_cut (ps_if (pt_cmpR op_eq (pv 3) (pe_int) (nomark _))
     (pss_one (ps_set (i := 6) sc__law_web.nd rfl (.inl rfl) (pe_op op_cat (pe_call G__law_round (hr.mono (by decide)) (by rfl) D__law_round.g D__law_round.F.kp D__law_round.b .nil pass0 (pa_cons (pv 4) pa_nil)) (pv 5))))
     (pss_one (ps_if (pt_cmpR op_eq (pv 3) (pe_int) (nomark _))
     (pss_one (ps_set (i := 6) sc__law_web.nd rfl (.inl rfl) (pe_op op_cat (pe_call G__law_full (hr.mono (by decide)) (by rfl) D__law_full.g D__law_full.F.kp D__law_full.b .nil pass0 (pa_cons (pe_callB (call_min2 rfl) (by rfl) T.b_min (by decide +kernel) (pa_cons (pv 4) (pa_cons (pe_int) pa_nil))) pa_nil)) (pv 5))))
     (pss_one (ps_if (pt_cmpR op_eq (pv 3) (pe_int) (nomark _))
     (pss_one (ps_set (i := 6) sc__law_web.nd rfl (.inl rfl) (pe_op op_cat (pe_call G__law_tree (hr.mono (by decide)) (by rfl) D__law_tree.g D__law_tree.F.kp D__law_tree.b .nil pass0 (pa_cons (pv 0) (pa_cons (pv 4) pa_nil))) (pv 5))))
     (pss_one (ps_if (pt_cmpR op_eq (pv 3) (pe_int) (nomark _))
     (pss_one (ps_set (i := 6) sc__law_web.nd rfl (.inl rfl) (pe_op op_cat (pe_op op_rep (pe_lst (pa_cons (pe_tup (pa_cons (pe_int) (pa_cons (pe_int) pa_nil))) pa_nil)) (pe_op op_mod (pe_call G__law_next (hr.mono (by decide)) (by rfl) D__law_next.g D__law_next.F.kp D__law_next.b .nil pass0 (pa_cons (pv 0) pa_nil)) (pe_op op_add (pv 2) (pe_int)))) (pv 5))))
     (pss_one (ps_set (i := 6) sc__law_web.nd rfl (.inl rfl) (pe_op op_cat (pe_op op_cat (pe_call G__law_tree (hr.mono (by decide)) (by rfl) D__law_tree.g D__law_tree.F.kp D__law_tree.b .nil pass0 (pa_cons (pv 0) (pa_cons (pv 4) pa_nil))) (pe_call G__law_tree (hr.mono (by decide)) (by rfl) D__law_tree.g D__law_tree.F.kp D__law_tree.b .nil pass0 (pa_cons (pv 0) (pa_cons (pv 4) pa_nil)))) (pe_slice (sl_listK (K := K)) (pv 5) po_none (po_some (pe_op op_mod (pe_call G__law_next (hr.mono (by decide)) (by rfl) D__law_next.g D__law_next.F.kp D__law_next.b .nil pass0 (pa_cons (pv 0) pa_nil)) (pe_int))))))))))))))
     (pss_cons (ps_set (i := 7) sc__law_web.nd rfl (.inl rfl) (pe_op op_mod (pe_call G__law_next (hr.mono (by decide)) (by rfl) D__law_next.g D__law_next.F.kp D__law_next.b .nil pass0 (pa_cons (pv 0) pa_nil)) (pe_callB (call_max2 rfl) (by rfl) T.b_max (by decide +kernel) (pa_cons (pe_int) (pa_cons (pe_callB (lenK (K := K)) (by rfl) T.b_len PySem.boot_len (pa_cons (pv 6) pa_nil)) pa_nil)))))
     (pss_one (ps_ret (pe_tup (pa_cons (pv 4) (pa_cons (pe_callTy (tupleK (K := K)) (by rfl) T.b_tuple (by decide +kernel) (pa_cons (pe_slice (sl_listK (K := K)) (pe_op op_cat (pe_slice (sl_listK (K := K)) (pv 6) (po_some (pv 7)) po_none) (pe_slice (sl_listK (K := K)) (pv 6) po_none (po_some (pv 7)))) po_none (po_some (pv 2))) pa_nil)) pa_nil)))))))))), ?_⟩
  refine ⟨_, rfl, p, rfl, hd, fun r1 H1 a0 a1 k1 => ⟨_, _, rfl, rfl, (by show (0 : Int) < 8; decide), ?_⟩⟩
  refine ⟨_, rfl, p, rfl, k1.d, fun r2 H2 b0 b1 k2 => ⟨_, rfl, _, _, rfl, rfl, by omega, _, _, rfl, rfl, ?_⟩⟩
  have e1 := emod_bds r1 (n := 8) (by decide)
  have e2 := emod_bds r2 (n := M) (by omega)
  have k12 := k1.trans k2
  have hs0 : 1 ≤ 1 + r2 % M := by omega
  have hs1 : 1 + r2 % M ≤ M := by omega
  -- the first way out
  have way1 : ∀ Q' : V → Hp → Prop, (∀ (H' : Hp) (v : V) (ts : List (Int × Int)), Dk p H2 H' → Web H' v (1 + r2 % M) ts → (ts.length : Int) ≤ m → TOk (1 + r2 % M) ts → Q' v H') → sp__law_any_web K tb [.ref p, .int (1 + r2 % M), .int m] H2 Q' E0 := fun Q' h' =>
    ⟨p, _, m, rfl, k12.d, hs0, by omega, hm0, hm1, fun H' v ts kk W l o _ => h' H' v ts kk W l o⟩
  have out1 : sp__law_any_web K tb [.ref p, .int (1 + r2 % M), .int m] H2 Q E0 := way1 Q fun H' v ts kk W l o => q H' v _ ts (k12.trans kk) W hs0 hs1 l o
  refine ⟨_, rfl, _, _, rfl, rfl, _, rfl, ite2 (fun c1 => ?_) (fun c1 => ?_)⟩
  · exact iteT ⟨_, rfl, _, rfl, _, rfl, out1⟩
  refine ⟨_, rfl, rfl, _, rfl, ite2 (fun c2 => ?_) (fun c2 => ?_)⟩
  · exact ⟨_, rfl, _, rfl, _, rfl, out1⟩
  have hs2 : 2 ≤ 1 + r2 % M := by
    have := ne_one c2
    omega
  clear way1 out1 c1 c2
  -- some ties more
  refine ⟨_, rfl, _, rfl, p, _, 4, rfl, k12.d, hs0, by omega, by decide, by decide, fun H3 v ms k3 W3 hml hmo _ => ?_⟩
  obtain ⟨t3, u3, rs3, rfl, ht3, hu3, hT3⟩ := W3
  refine ⟨t3, _, 1, _, rfl, rfl, sqT_of ht3, atI_nat (j := 1) rfl, u3, _, rfl, .inr (sqT_of hu3), fun lm nlm => ?_⟩
  have k4 : Dk p H (upd H3 lm (.lst rs3)) := (k12.trans k3).new nlm
  have hlm : (upd H3 lm (.lst rs3)) lm = some (.lst rs3) := upd_same
  have hTm : Ties (upd H3 lm (.lst rs3)) rs3 ms := hT3.new nlm
  have nHlm : H lm = none := (k12.trans k3).k.dom _ nlm
  have nlmp : lm ≠ p := (hd.ne nHlm).symm
  generalize upd H3 lm (.lst rs3) = H4 at *
  clear nlm hu3 ht3 hT3
  have LB := line_big
  have hrs3 : rs3.length = ms.length := hTm.length
  refine ⟨fun σ G => ∃ (l : Addr) (ts : List (Int × Int)), σ = [some (.ref p), some (.int M), some (.int m), some (.int (r1 % 8)), some (.int (1 + r2 % M)), some (.ref lm), some (.ref l), none] ∧ Dk p H G ∧ H l = none ∧ TL G l ts ∧ TOk (1 + r2 % M) ts ∧ ts.length ≤ 20000, ?_, fun σ G hG => ?_⟩
  · -- the ways
    refine ⟨_, rfl, rfl, _, rfl, ite2 (fun _ => ?_) (fun _ => ?_)⟩
    · refine ⟨_, rfl, _, rfl, hs2, by omega, fun H5 l1 us k5 nl1 hTL hul huo => ?_⟩
      obtain ⟨qs, hl1, hU⟩ := hTL
      have nHl1 := k4.k.dom _ nl1
      refine ⟨_, rfl, l1, lm, _, _, rfl, rfl, hl1, k5.lst hlm, by rw [hU.length, hrs3]; omega, fun o no => ?_⟩
      exact ⟨o, us ++ ms, rfl, (k4.ke k5).new no, (k4.ke k5).k.dom _ no, ⟨_, upd_same, (hU.append (hTm.ke k5)).new no⟩, huo.append hmo, by rw [List.length_append]; omega⟩
    refine ⟨_, rfl, rfl, _, rfl, ite2 (fun _ => ?_) (fun _ => ?_)⟩
    · refine ⟨_, rfl, _, _, rfl, _, rfl, by split <;> omega, by split <;> omega, fun H5 l1 us k5 nl1 hTL hul huo => ?_⟩
      obtain ⟨qs, hl1, hU⟩ := hTL
      refine ⟨_, rfl, l1, lm, _, _, rfl, rfl, hl1, k5.lst hlm, by rw [hU.length, hrs3]; omega, fun o no => ?_⟩
      exact ⟨o, us ++ ms, rfl, (k4.ke k5).new no, (k4.ke k5).k.dom _ no, ⟨_, upd_same, (hU.append (hTm.ke k5)).new no⟩, (huo.mono (by split <;> omega)).append hmo, by rw [List.length_append]; omega⟩
    refine ⟨_, rfl, rfl, _, rfl, ite2 (fun _ => ?_) (fun _ => ?_)⟩
    · refine ⟨_, rfl, _, rfl, p, _, rfl, k4.d, hs0, by omega, fun H5 l1 us k5 nl1 hTL hul huo => ?_⟩
      obtain ⟨qs, hl1, hU⟩ := hTL
      have hTm5 := hTm.dk k5 k4.d
      refine ⟨_, rfl, l1, lm, _, _, rfl, rfl, hl1, k5.lst hlm nlmp, by rw [hU.length, hrs3]; omega, fun o no => ?_⟩
      exact ⟨o, us ++ ms, rfl, (k4.trans k5).new no, (k4.trans k5).k.dom _ no, ⟨_, upd_same, (hU.append hTm5).new no⟩, huo.append hmo, by rw [List.length_append]; omega⟩
    refine ⟨_, rfl, rfl, _, rfl, ite2 (fun _ => ?_) (fun _ => ?_)⟩
    · refine ⟨by show 2 ≤ sizeLine; decide, fun t nt => ⟨by show 1 ≤ sizeLine; decide, fun z nz => ?_⟩⟩
      have k5 : Dk p H4 (upd (upd H4 t (.tup [.int 0, .int 1])) z (.lst [.ref t])) := ((Dk.refl k4.d).new nt).new nz
      have nHz : H z = none := (k4.k.trans (Ke.new nt)).dom _ nz
      have hz5 : (upd (upd H4 t (.tup [.int 0, .int 1])) z (.lst [.ref t])) z = some (.lst [.ref t]) := upd_same
      have ht5 : (upd (upd H4 t (.tup [.int 0, .int 1])) z (.lst [.ref t])) t = some (.tup [.int 0, .int 1]) := by rw [upd_ne (upd_none nz).1.symm, upd_same]
      generalize upd (upd H4 t (.tup [.int 0, .int 1])) z (.lst [.ref t]) = H5 at *
      refine ⟨_, rfl, p, rfl, k5.d, fun r5 H6 c0 c1 k6 => ?_⟩
      have e5 := emod_bds r5 (n := m + 1) (by omega)
      have k56 := k5.trans k6
      refine ⟨_, rfl, _, _, rfl, rfl, _, _, rfl, rfl, by omega, z, _, _, rfl, rfl, k6.lst hz5 (hd.ne nHz).symm, by omega, by omega, by show 1 * _ ≤ sizeLine; omega, fun y ny => ?_⟩
      have hT7 := (hTm.dk k56 k4.d).new (o := .lst (List.replicate (r5 % (m + 1)).toNat [V.ref t]).flatten) ny
      have hR := (Ties.rep (k6.tup k5.d ht5) (r5 % (m + 1)).toNat).new (o := .lst (List.replicate (r5 % (m + 1)).toNat [V.ref t]).flatten) ny
      have hlm7 : upd H6 y (.lst (List.replicate (r5 % (m + 1)).toNat [V.ref t]).flatten) lm = some (.lst rs3) := lst_new ny (k56.lst hlm nlmp)
      have hrl := hR.length
      rw [List.length_replicate] at hrl
      refine ⟨_, rfl, y, lm, _, _, rfl, rfl, upd_same, hlm7, by rw [hrl, hrs3]; omega, fun o no => ?_⟩
      exact ⟨o, List.replicate (r5 % (m + 1)).toNat (0, 1) ++ ms, rfl, ((k4.trans k56).new ny).new no, ((k4.trans k56).new (o := .lst (List.replicate (r5 % (m + 1)).toNat [V.ref t]).flatten) ny).k.dom _ no, ⟨_, upd_same, (hR.append hT7).new no⟩, (TOk.rep (by decide) (by decide) (by omega) _).append hmo, by rw [List.length_append, List.length_replicate]; omega⟩
    · refine ⟨_, rfl, _, rfl, p, _, rfl, k4.d, hs0, by omega, fun H5 l1 us k5 nl1 hTL hul huo => ?_⟩
      obtain ⟨qs, hl1, hU⟩ := hTL
      have nHl1 := k4.k.dom _ nl1
      refine ⟨_, rfl, _, rfl, p, _, rfl, k5.d, hs0, by omega, fun H6 l2 ws k6 nl2 hTL2 hwl hwo => ?_⟩
      obtain ⟨xs2, hl2, hW⟩ := hTL2
      refine ⟨l1, l2, _, _, rfl, rfl, k6.lst hl1 (hd.ne nHl1).symm, hl2, by rw [hU.length, hW.length]; omega, fun o no => ?_⟩
      have k7 := k6.new (o := .lst (qs ++ xs2)) no
      have hUW := ((hU.dk k6 k5.d).append hW).new (o := .lst (qs ++ xs2)) no
      have nHo := ((k4.trans k5).trans k6).k.dom _ no
      have ho : upd H6 o (.lst (qs ++ xs2)) o = some (.lst (qs ++ xs2)) := upd_same
      generalize upd H6 o (.lst (qs ++ xs2)) = H7 at *
      have k57 := k5.trans k7
      refine ⟨_, rfl, _, rfl, p, rfl, k57.d, fun r8 H8 c0 c1 k8 => ?_⟩
      have e8 := emod_bds r8 (n := 2) (by decide)
      refine ⟨_, _, rfl, rfl, (by show (0 : Int) < 2; decide), _, rfl, lm, _, rfl, sqL_of ((k57.trans k8).lst hlm nlmp), fun x nx => ?_⟩
      rw [cut_to' _ e8.1]
      have hTx := ((hTm.dk (k57.trans k8) k4.d).take (r8 % 2).toNat).new (o := .lst (rs3.take (r8 % 2).toNat)) nx
      have hUx := (hUW.dk k8 k57.d).new (o := .lst (rs3.take (r8 % 2).toNat)) nx
      have hox := lst_new (o := .lst (rs3.take (r8 % 2).toNat)) nx (k8.lst ho (hd.ne nHo).symm)
      have hlx := hTx.length
      rw [List.length_take, List.length_take] at hlx
      have hly := hUx.length
      rw [List.length_append, List.length_append] at hly
      refine ⟨o, x, _, _, rfl, rfl, hox, upd_same, by rw [List.length_append, List.length_take]; omega, fun y ny => ?_⟩
      have kz := (k4.trans (k57.trans k8)).new (o := .lst (rs3.take (r8 % 2).toNat)) nx
      refine ⟨y, (us ++ ws) ++ ms.take (r8 % 2).toNat, rfl, kz.new ny, kz.k.dom _ ny, ⟨_, upd_same, (hUx.append hTx).new ny⟩, (huo.append hwo).append (hmo.sub fun t ht => List.mem_of_mem_take ht), ?_⟩
      rw [List.length_append, List.length_append, List.length_take]
      omega
  · -- turned, and cut
    obtain ⟨l, ts, rfl, kG, nl, ⟨qs, hl, hT⟩, hok, hlen⟩ := hG
    have hql : qs.length = ts.length := hT.length
    refine ⟨_, rfl, p, rfl, kG.d, fun r9 H9 c0 c1 k9 => ?_⟩
    have nlp : l ≠ p := (hd.ne nl).symm
    have hl9 := k9.lst hl nlp
    have hT9 := hT.dk k9 kG.d
    refine ⟨_, rfl, l, _, rfl, .inl (sqL_of hl9), _, _, rfl, _, _, rfl, rfl, by split <;> omega, ?_⟩
    have e9 := emod_bds r9 (n := if (qs.length : Int) > 1 then (qs.length : Int) else 1) (by split <;> omega)
    obtain ⟨d, hdd⟩ : ∃ d : Nat, (d : Int) = r9 % (if (qs.length : Int) > 1 then (qs.length : Int) else 1) := ⟨_, Int.toNat_of_nonneg e9.1⟩
    have cf : ∀ xs : List V, cutV xs (some (r9 % (if (qs.length : Int) > 1 then (qs.length : Int) else 1))) none = xs.drop d := fun xs => by rw [← hdd, cut_from]
    have ct : ∀ xs : List V, cutV xs none (some (r9 % (if (qs.length : Int) > 1 then (qs.length : Int) else 1))) = xs.take d := fun xs => by rw [← hdd, cut_to]
    refine ⟨_, rfl, _, rfl, _, rfl, _, rfl, l, _, rfl, sqL_of hl9, fun x nx => ?_⟩
    rw [cf]
    have hlx := lst_new (o := .lst (qs.drop d)) nx hl9
    refine ⟨_, rfl, _, rfl, _, rfl, l, _, rfl, sqL_of hlx, fun y ny => ?_⟩
    rw [ct]
    have hxy := lst_new (o := .lst (qs.take d)) ny (show upd H9 x (.lst (qs.drop d)) x = _ from upd_same)
    refine ⟨x, y, _, _, rfl, rfl, hxy, upd_same, by rw [List.length_drop, List.length_take]; omega, fun z nz => ?_⟩
    refine ⟨_, rfl, _, rfl, z, _, rfl, sqL_of upd_same, fun w nw => ?_⟩
    rw [cut_to' _ hm0]
    refine ⟨w, _, rfl, .inl ⟨sqL_of upd_same, fun u nu => ?_⟩⟩
    refine ⟨by show 2 ≤ sizeLine; decide, fun t nt => ?_⟩
    refine q _ _ _ _ (((((((kG.trans k9).new nx).new ny).new nz).new nw).new nu).new nt) ⟨t, u, _, rfl, upd_same, ?_, ((((((((hT9.drop d).append (hT9.take d)).take m.toNat).new nx).new ny).new nz).new nw).new nu).new nt⟩ hs0 hs1 ?_ (hok.sub fun t ht => ?_)
    · rw [upd_ne (upd_none nt).1.symm, upd_same]
    · rw [List.length_take]
      omega
    · rcases List.mem_append.mp (List.mem_of_mem_take ht) with ht | ht
      · exact List.mem_of_mem_drop ht
      · exact List.mem_of_mem_take ht
theorem ok__law_heads {P : Program} {w : World} {K : PySem.W.Frag} {mg : Str → Option Value} {base : Heap} {tb : List Addr} {f : Addr} {fd : FuncData} (T : Blt mg) (D__law_heads : DefAt K mg "_law_heads" s_law_heads ["_law_points", "_law_ties"] f fd) (XC : Xcs xfs K mg) :
    FnOk P w K mg base CX0 1 f fd ["_law_points", "_law_ties"] (sp__law_heads K tb) := by
  refine D__law_heads.ok sc__law_heads (fun vs H Q E h => by
    obtain ⟨n, u, rs, ts, rfl, hu, hT, hok, hn0, hn1, q⟩ := h
    all_goals rfl) fun A outer s H vs Q E hr h => ?_
  obtain ⟨n, u, rs, ts, rfl, hu, hT, hok, hn0, hn1, q⟩ := h
  refine ⟨_, pss_cons (ps_set (i := 2) sc__law_heads.nd rfl (.inl rfl) (pe_listRg rfl (by rfl) T.b_list (prg_1 (by rfl) T.b_range (pv 0))))
     (pss_cons (ps_for PassesOwn.never rfl (pi_tup (pv 1)) (tgtK (K := K) (n := 2) (pgs_cons (pg_name (i := 3) sc__law_heads.nd rfl (.inl rfl)) (pgs_cons (pg_name (i := 4) sc__law_heads.nd rfl (.inl rfl)) pgs_nil)))
     (pss_cons (ps_set (i := 5) sc__law_heads.nd rfl (.inr rfl) (pe_ix (ix_listK (K := K)) (pv 2) (pv 3) (fun _ _ => rfl)))
     (pss_cons (ps_set (i := 6) sc__law_heads.nd rfl (.inr rfl) (pe_ix (ix_listK (K := K)) (pv 2) (pv 4) (fun _ _ => rfl)))
     (pss_one (ps_setLc (i := 2) (own := [("_law_head", 7)]) rfl sc__law_heads.nd rfl rfl (sw_true rfl rfl rfl (by decide +kernel)) (pi_list (pv 2)) (blkOk_by (own := [("_law_head", 7)]) (N := nm__law_heads) (sc := defScope s_law_heads) (by decide +kernel)) (fun _ _ _ _ _ => pg_name (i := 7) sc__law_heads.nd rfl (.inl rfl)) (fun _ _ _ _ _ => pts_nil) (fun _ _ _ _ _ => pe_ix (ix_listK (K := K)) (pe_lst (pa_cons (pv 7) (pa_cons (pe_callB (call_min2 rfl) (by rfl) T.b_min (by decide +kernel) (pa_cons (pv 5) (pa_cons (pv 6) pa_nil))) pa_nil))) (pe_callTy call_int1 (by rfl) T.b_int (by decide +kernel) (pa_cons (pe_cmpR (in_seqK (K := K)) (pv 7) (pe_lst (pa_cons (pv 5) (pa_cons (pv 6) pa_nil))) (by rfl)) pa_nil)) (fun _ _ => rfl)))))))
     (pss_one (ps_ret (pv 2)))), ?_⟩
  refine ⟨_, rfl, n, rfl, ⟨by omega, by omega, by omega, by omega, by omega⟩, fun l nl => ?_⟩
  refine ⟨_, rfl, u, rfl, ⟨_, sqT_of (tup_new nl hu)⟩, ?_⟩
  refine for_tup (K := K) (a := u) (xs := rs) (fun i σ G => ∃ (y3 y4 y5 y6 y7 : Option V) (l' : Addr), σ = [some (.int n), some (.ref u), some (.ref l'), y3, y4, y5, y6, y7] ∧ Ke H G ∧ G l' = some (.lst ((headsF (upTo n) (ts.take i)).map V.int))) ⟨_, _, _, _, _, l, rfl, Ke.new nl, by rw [upd_same, rgV_up]; rfl⟩ (fun i σ G _ hG => ?_) (fun i x σ G hx hG => ?_) (fun σ G hG => ?_)
  · obtain ⟨_, _, _, _, _, _, _, kG, _⟩ := hG
    exact sqT_of (kG.tup hu)
  · obtain ⟨y3, y4, y5, y6, y7, l', rfl, kG, gl⟩ := hG
    obtain ⟨⟨x1, x2⟩, r', hti, rfl, hr'⟩ := hT.get hx
    obtain ⟨ok1, ok2, ok3⟩ := hok _ (List.mem_of_getElem? hti)
    dsimp only at ok1 ok2 ok3
    have en : headsF (upTo n) (ts.take (i + 1)) = hstep (headsF (upTo n) (ts.take i)) (x1, x2) := by rw [take_next hti, headsF_snoc]
    have hl : ((headsF (upTo n) (ts.take i)).length : Int) = n := by rw [headsF_length, upTo_length]; omega
    obtain ⟨hs, ehs⟩ : ∃ hs, hs = headsF (upTo n) (ts.take i) := ⟨_, rfl⟩
    rw [← ehs] at en hl gl
    refine ⟨r', _, rfl, sqT_of (kG.tup hr'), rfl, _, _, rfl, _, [], rfl, rfl, ?_⟩
    refine ⟨_, rfl, _, rfl, l', _, _, _, rfl, rfl, sqL_of gl, hat_at ok1 (by omega), ?_⟩
    refine ⟨_, rfl, _, rfl, l', _, _, _, rfl, rfl, sqL_of gl, hat_at (x := x2) (by omega) (by omega), ?_⟩
    refine ⟨_, rfl, l', rfl, ⟨_, sqL_of gl⟩, fun D hD => ?_⟩
    refine lc_list (K := K) (a := l') (xs := hs.map V.int) (fun j G' => Ke H G' ∧ G' l' = some (.lst (hs.map V.int)) ∧ G' D = some (.lst (((hs.take j).map (mrg (hat hs x1) (hat hs x2))).map V.int))) ⟨kG.trans (Ke.new hD), lst_new hD gl, upd_same⟩ (fun j G' _ hG' => sqL_of hG'.2.1) (fun j x G' hx' hG' => ?_) (fun G' hG' => ?_)
    · obtain ⟨kG', gl', gD'⟩ := hG'
      obtain ⟨h, hh, rfl⟩ := int_at hx'
      refine ⟨rfl, yes_ite ?_⟩
      refine ⟨_, rfl, _, rfl, _, rfl, _, _, rfl, by show 2 ≤ sizeLine; decide, fun b nb => ?_⟩
      refine ⟨_, rfl, _, rfl, _, rfl, by show 2 ≤ sizeLine; decide, fun c nc => ?_⟩
      refine ⟨c, [hat hs x1, hat hs x2].map V.int, rfl, .inl (sqL_of upd_same), rfl, rfl, .inr ⟨_, rfl, ?_⟩⟩
      have hj : j < hs.length := (List.getElem?_eq_some_iff.mp hh).1
      have e0 : ((hs.take (j + 1)).map (mrg (hat hs x1) (hat hs x2))).map V.int = ((hs.take j).map (mrg (hat hs x1) (hat hs x2))).map V.int ++ [V.int (mrg (hat hs x1) (hat hs x2) h)] := by rw [take_next hh, List.map_append, List.map_append]; rfl
      refine ⟨b, [V.int h, V.int (if hat hs x2 < hat hs x1 then hat hs x2 else hat hs x1)], _, V.int (mrg (hat hs x1) (hat hs x2) h), rfl, rfl, sqL_of (lst_new nc upd_same), ?_, _, lst_new nc (lst_new nb gD'), ?_, ?_⟩
      · show atI [V.int h, V.int (if hat hs x2 < hat hs x1 then hat hs x2 else hat hs x1)] (if inV (V.int h) ([hat hs x1, hat hs x2].map V.int) = true then 1 else 0) = _
        rw [inV_int]
        have em : (if hat hs x2 < hat hs x1 then hat hs x2 else hat hs x1) = min (hat hs x1) (hat hs x2) := by
          rw [Int.min_def]
          split <;> split <;> omega
        rw [em]
        unfold mrg
        by_cases z : h = hat hs x1 ∨ h = hat hs x2
        · have d : decide (h ∈ [hat hs x1, hat hs x2]) = true := decide_eq_true (by simpa using z)
          rw [d, if_pos rfl, if_pos z]
          rfl
        · have d : decide (h ∈ [hat hs x1, hat hs x2]) = false := decide_eq_false (by simpa using z)
          rw [d, if_neg (by decide), if_neg z]
          rfl
      · rw [List.length_map, List.length_map, List.length_take]
        have := line_big
        omega
      · rw [← e0]
        exact ⟨((kG'.trans (Ke.new nb)).trans (Ke.new nc)).over (kG.dom _ hD), by
          rw [upd_ne (ne_of_none gl hD)]
          exact lst_new nc (lst_new nb gl'), upd_same⟩
    · obtain ⟨kG', gl', gD'⟩ := hG'
      rw [List.length_map, List.take_length] at gD'
      exact ⟨_, _, _, _, _, D, rfl, kG', by rw [en]; exact gD'⟩
  · obtain ⟨_, _, _, _, _, l', rfl, kG, gl⟩ := hG
    rw [hT.length, List.take_length] at gl
    exact ⟨_, rfl, q l' G kG gl⟩
theorem ok__law_pieces {P : Program} {w : World} {K : PySem.W.Frag} {mg : Str → Option Value} {base : Heap} {tb : List Addr} {f : Addr} {fd : FuncData} {f__law_heads : Addr} {fd__law_heads : FuncData} (T : Blt mg) (D__law_pieces : DefAt K mg "_law_pieces" s_law_pieces ["_law_points", "_law_ties"] f fd) (XC : Xcs xfs K mg) (D__law_heads : DefAt K mg "_law_heads" s_law_heads ["_law_points", "_law_ties"] f__law_heads fd__law_heads) (G__law_heads : FnOk P w K mg base CX0 1 f__law_heads fd__law_heads ["_law_points", "_law_ties"] (sp__law_heads K tb)) :
    FnOk P w K mg base CX0 2 f fd ["_law_points", "_law_ties"] (sp__law_pieces K tb) := by
  refine D__law_pieces.ok sc__law_pieces (fun vs H Q E h => by
    obtain ⟨n, u, rs, ts, rfl, hu, hT, hok, hn0, hn1, q⟩ := h
    all_goals rfl) fun A outer s H vs Q E hr h => ?_
  obtain ⟨n, u, rs, ts, rfl, hu, hT, hok, hn0, hn1, q⟩ := h
  refine ⟨_, pss_cons (ps_set (i := 2) sc__law_pieces.nd rfl (.inr rfl) (pe_call G__law_heads (hr.mono (by decide)) (by rfl) D__law_heads.g D__law_heads.F.kp D__law_heads.b .nil pass0 (pa_cons (pv 0) (pa_cons (pv 1) pa_nil))))
     (pss_one (ps_ret (pe_callTy (tupleK (K := K)) (by rfl) T.b_tuple (by decide +kernel) (pa_cons (pe_lc (own := [("_law_head", 3)]) rfl sc__law_pieces.nd (pi_list (pe_callB (cr_sortedSetB rfl) (by rfl) T.b_sorted (by decide +kernel) (pa_cons (pe_callTy (cr_setL rfl) (by rfl) T.b_set (by decide +kernel) (pa_cons (pv 2) pa_nil)) pa_nil))) (blkOk_by (own := [("_law_head", 3)]) (N := nm__law_pieces) (sc := defScope s_law_pieces) (by decide +kernel)) (fun _ _ _ _ _ => pg_name (i := 3) sc__law_pieces.nd rfl (.inr rfl)) (fun _ _ _ _ _ => pts_nil) (fun _ _ _ _ _ => pe_callTy (tupleK (K := K)) (by rfl) T.b_tuple (by decide +kernel) (pa_cons (pe_lc (own := [("_law_k", 4)]) rfl sc__law_pieces.nd (pi_range1 (by rfl) T.b_range (pa_cons (pv 0) pa_nil)) (blkOk_by (own := [("_law_k", 4)]) (N := nm__law_pieces) (sc := relS csc__law_pieces_2_17 (defScope s_law_pieces)) (by decide +kernel)) (fun _ _ _ _ _ => pg_name (i := 4) sc__law_pieces.nd rfl (.inl rfl)) (fun _ _ _ _ _ => pts_one (pt_cmpR op_eq (pe_ix (ix_listK (K := K)) (pv 2) (pv 4) (fun _ _ => rfl)) (pv 3) (nomark _))) (fun _ _ _ _ _ => pv 4)) pa_nil))) pa_nil)))), ?_⟩
  have LB := line_big
  refine ⟨_, rfl, _, rfl, n, u, rs, ts, rfl, hu, hT, hok, hn0, by omega, fun l H1 k1 hl => ?_⟩
  have hlen : ((headsF (upTo n) ts).length : Int) = n := by rw [headsF_length, upTo_length]; omega
  refine ⟨_, rfl, l, _, rfl, sqL_of hl, by omega, fun s2 c2 ns2 hc2 => ?_⟩
  refine ⟨s2, _, c2, rfl, upd_same, by omega, fun ms p2 hup hmem hml2 np2 => ?_⟩
  have k2 : Ke H1 (upd (upd H1 s2 _) p2 (.lst (ms.map V.int))) := (Ke.new ns2).trans (Ke.new np2)
  have hm : ∀ k, k ∈ ms ↔ k ∈ headsF (upTo n) ts := fun k => (hmem k).trans ⟨of_decide_eq_true, decide_eq_true⟩
  generalize eG : upd _ p2 _ = G0 at *
  have gp2 : G0 p2 = some (.lst (ms.map V.int)) := by rw [← eG]; exact upd_same
  clear eG
  refine ⟨p2, rfl, ⟨_, sqL_of gp2⟩, fun D hD => ?_⟩
  rw [← heads_pieces hn0 hok hup hm] at q
  have hml3 : ms.length ≤ 60 := by
    have := up_length (lo := 0) (n := n) hup fun x hx => by
      have hx2 := (hm x).mp hx
      obtain ⟨i, hi⟩ := List.getElem?_of_mem hx2
      have hil := (List.getElem?_eq_some_iff.mp hi).1
      have ek : hat (headsF (upTo n) ts) (i : Int) = x := by
        unfold hat
        rw [List.getD_eq_getElem?_getD, show ((i : Int)).toNat = i by omega, hi]
        rfl
      have hr := (Hd.heads (Hd.start hn0) hok).rng (i : Int) (by omega) (by omega)
      omega
    omega
  generalize ehs : headsF (upTo n) ts = hs at *
  refine lc_list (K := K) (a := p2) (xs := ms.map V.int) (fun i G => ∃ cs, Ke H1 G ∧ G p2 = some (.lst (ms.map V.int)) ∧ G D = some (.lst cs) ∧ Lots G cs ((ms.take i).map fun h => (upTo n).filter fun y => decide (hat hs y = h))) ⟨[], k2.trans (Ke.new hD), lst_new hD gp2, upd_same, .nil⟩ (fun i G _ hG => ?_) (fun i x G hx hG => ?_) (fun G hG => ?_)
  · obtain ⟨_, _, g, _⟩ := hG
    exact sqL_of g
  · obtain ⟨cs, kG, gp, gD, hL⟩ := hG
    obtain ⟨hh, hhi, rfl⟩ := int_at hx
    have hil : i < ms.length := (List.getElem?_eq_some_iff.mp hhi).1
    refine ⟨rfl, yes_ite ?_⟩
    refine ⟨_, rfl, n, rfl, by omega, by omega, fun D2 hD2 => ?_⟩
    refine lc_range (lo := 0) (n := n.toNat) (fun j G2 => Ke G G2 ∧ G2 D2 = some (.lst (((upTo j).filter fun y => decide (hat hs y = hh)).map V.int))) ⟨Ke.new hD2, upd_same⟩ (fun j G2 hj hG2 => ?_) (fun G2 hG2 => ?_)
    · obtain ⟨kG2, gD2⟩ := hG2
      have gl2 := kG2.lst (kG.lst hl)
      have eb : (upTo ((j + 1 : Nat) : Int)).filter (fun y => decide (hat hs y = hh)) = (upTo j).filter (fun y => decide (hat hs y = hh)) ++ [(j : Int)].filter (fun y => decide (hat hs y = hh)) := by
        rw [show ((j + 1 : Nat) : Int) = (j : Int) + 1 by omega, upTo_snoc]
        exact List.filter_append ..
      refine ⟨rfl, _, rfl, _, rfl, l, _, _, _, rfl, rfl, sqL_of gl2, hat_at (x := 0 + (j : Int)) (by omega) (by omega), _, rfl, rfl, _, rfl, iteB (fun hb => ?_) (fun hb => ?_)⟩
      · have hb : hat hs (j : Int) = hh := by
          have := eq_one hb
          rw [Int.zero_add] at this
          exact this
        refine ⟨_, rfl, _, gD2, ?_, kG2.over hD2, ?_⟩
        · rw [List.length_map]
          have h1 : ((upTo j).filter (fun y => decide (hat hs y = hh))).length ≤ (upTo j).length := List.length_filter_le _ _
          rw [upTo_length] at h1
          omega
        · rw [upd_same, eb, List.filter_cons_of_pos (p := fun y => decide (hat hs y = hh)) (decide_eq_true hb), List.map_append, Int.zero_add]
          rfl
      · have hb : ¬ hat hs (j : Int) = hh := fun z => by
          have hb : decide (V.int (hat hs (0 + (j : Int))) = V.int hh) = false := hb
          rw [Int.zero_add, z, decide_eq_true rfl] at hb
          cases hb
        exact ⟨kG2, by rw [eb, List.filter_cons_of_neg (p := fun y => decide (hat hs y = hh)) (by rw [decide_eq_false hb]; decide), List.filter_nil, List.append_nil]; exact gD2⟩
    · obtain ⟨kG2, gD2⟩ := hG2
      rw [show ((n.toNat : Nat) : Int) = n by omega] at gD2
      refine ⟨D2, _, rfl, .inl ⟨sqL_of gD2, fun c nc => ?_⟩⟩
      have k3 := kG2.trans (Ke.new (o := .tup (((upTo n).filter fun y => decide (hat hs y = hh)).map V.int)) nc)
      have gD3 := Ke.lst k3 gD
      refine ⟨cs, gD3, by rw [hL.length, List.length_map, List.length_take]; omega, cs ++ [.ref c], (kG.trans k3).over (k2.dom _ hD), ?_, upd_same, ?_⟩
      · rw [upd_ne (ne_of_none gp2 hD)]
        exact Ke.lst k3 gp
      · rw [take_next hhi, List.map_append]
        exact ((hL.ke k3).append (Lots.one upd_same)).put gD3
  · obtain ⟨cs, kG, gp, gD, hL⟩ := hG
    rw [List.length_map, List.take_length] at hL
    refine ⟨D, _, rfl, .inl ⟨sqL_of gD, fun c nc => ?_⟩⟩
    exact q _ c cs ((k1.trans kG).trans (Ke.new nc)) ((k1.trans kG).dom _ nc) upd_same (hL.new nc)
theorem ok__law_refused_with {P : Program} {w : World} {K : PySem.W.Frag} {mg : Str → Option Value} {base : Heap} {tb : List Addr} {f : Addr} {fd : FuncData} (T : Blt mg) (D__law_refused_with : DefAt K mg "_law_refused_with" s_law_refused_with ["_law_error"] f fd) (XC : Xcs xfs K mg) :
    FnHC P w K mg base  1 f fd ["_law_error"] (sp__law_refused_with K tb) := by
  refine D__law_refused_with.okHC sc__law_refused_with (fun a0 cls0 d0 vs H Q E h => by
    obtain ⟨rfl, rfl, rfl, q⟩ := h
    all_goals rfl) fun A outer s H vs Q E ee oe ecls ed hot hz hf hr h => ?_
  obtain ⟨rfl, rfl, rfl, q⟩ := h
  refine ⟨_, pss_one (ps_ret (pe_lst (pa_cons (pe_str) (pa_cons (pe_callB (call_isH List.mem_cons_self hz.zc hf) (by rfl) T.b_isinstance (by decide +kernel) (pa_cons (pv 0) (pa_cons (pe_clsK (x := "TooGreat") XC (by decide +kernel) (by rfl)) pa_nil))) pa_nil)))), ?_⟩
  refine ⟨_, rfl, _, _, _, true, rfl, rfl, rfl, XC.ec (by decide +kernel), cv_ref, XC.kit (by decide +kernel), by show 2 ≤ sizeLine; decide, fun l nl => q _ l (Ke.new nl) nl upd_same⟩
theorem ok__law_told {P : Program} {w : World} {K : PySem.W.Frag} {mg : Str → Option Value} {base : Heap} {tb : List Addr} {f : Addr} {fd : FuncData} {f_webs_beside : Addr} {fd_webs_beside : FuncData} {f__law_refused_with : Addr} {fd__law_refused_with : FuncData} (T : Blt mg) (D__law_told : DefAt K mg "_law_told" s_law_told ["_law_one", "_law_other"] f fd) (XC : Xcs xfs K mg) (D_webs_beside : DefAt K mg "webs_beside" s_webs_beside ["one", "other"] f_webs_beside fd_webs_beside) (G_webs_beside : FnOk P w K mg base (L2N.CX P w) 7 f_webs_beside fd_webs_beside ["one", "other"] (sp_webs_beside K tb)) (D__law_refused_with : DefAt K mg "_law_refused_with" s_law_refused_with ["_law_error"] f__law_refused_with fd__law_refused_with) (G__law_refused_with : FnHC P w K mg base  1 f__law_refused_with fd__law_refused_with ["_law_error"] (sp__law_refused_with K tb)) :
    FnOk P w K mg base CX0 8 f fd ["_law_one", "_law_other"] (sp__law_told K tb) := by
  refine D__law_told.ok sc__law_told (fun vs H Q E h => by
    obtain ⟨v1, v2, n1, n2, ts, us, rfl, W1, W2, hn1, hn2, hl1, hl2, ho1, ho2, hT0, q0, q1⟩ := h
    all_goals rfl) fun A outer s H vs Q E hr h => ?_
  obtain ⟨v1, v2, n1, n2, ts, us, rfl, W1, W2, hn1, hn2, hl1, hl2, ho1, ho2, hT0, q0, q1⟩ := h
  refine ⟨_, pss_cons (ps_set (i := 2) sc__law_told.nd rfl (.inl rfl) (pe_non))
     (pss_cons (L2N.ps_try_as (i := 3) rfl rfl sc__law_told.nd rfl rfl ⟨rfl, by decide, .inl (XC.g "WebsError" (by decide +kernel))⟩ takesNN (fun W pn xe tk hp => pss_one (ps_set (i := 2) sc__law_told.nd rfl (.inl rfl) (pe_callS G_webs_beside (hr.mono (by decide)) (by rfl) D_webs_beside.g D_webs_beside.F.kp D_webs_beside.b (fun σ => L2N.passAt tk σ) (pa_cons (pv 0) (pa_cons (pv 1) pa_nil))))) (fun a oe cls d pn hz hf => pss_one (ps_set (i := 2) sc__law_told.nd rfl (.inl rfl) (hot_callC G__law_refused_with (hr.mono (j := 1) (by decide)).dp (hr.mono (j := 1) (by decide)).un (hot1S hz hf) List.mem_cons_self hz hf (by rfl) D__law_refused_with.g D__law_refused_with.F.kp D__law_refused_with.b (pa_cons (pv 3) pa_nil)))))
     (pss_one (ps_ret (pv 2)))), ?_⟩
  have LB := line_big
  refine ⟨_, rfl, _, rfl, v1, v2, n1, n2, ts, us, rfl, W1, W2, hn1, hn2, hl1, hl2, ho1, ho2, hT0, fun h H1 v1 k1 W1 => ?_, fun h H1 k1 => ⟨true, XC.exm (by decide +kernel), fun _ e0 ne0 => ?_, fun z => nomatch z⟩⟩
  · exact ⟨_, rfl, q0 h H1 v1 k1 W1⟩
  · exact ⟨_, rfl, rfl, rfl, rfl, fun H2 l k2 nl hl => ⟨_, rfl, q1 h H2 l (k1.trans k2) (k1.dom _ nl) hl⟩⟩
theorem ok__law_told_twice {P : Program} {w : World} {K : PySem.W.Frag} {mg : Str → Option Value} {base : Heap} {tb : List Addr} {f : Addr} {fd : FuncData} {f_doubled_web : Addr} {fd_doubled_web : FuncData} {f__law_refused_with : Addr} {fd__law_refused_with : FuncData} (T : Blt mg) (D__law_told_twice : DefAt K mg "_law_told_twice" s_law_told_twice ["_law_web_here"] f fd) (XC : Xcs xfs K mg) (D_doubled_web : DefAt K mg "doubled_web" s_doubled_web ["web"] f_doubled_web fd_doubled_web) (G_doubled_web : FnOk P w K mg base (L2N.CX P w) 3 f_doubled_web fd_doubled_web ["web"] (sp_doubled_web K tb)) (D__law_refused_with : DefAt K mg "_law_refused_with" s_law_refused_with ["_law_error"] f__law_refused_with fd__law_refused_with) (G__law_refused_with : FnHC P w K mg base  1 f__law_refused_with fd__law_refused_with ["_law_error"] (sp__law_refused_with K tb)) :
    FnOk P w K mg base CX0 4 f fd ["_law_web_here"] (sp__law_told_twice K tb) := by
  refine D__law_told_twice.ok sc__law_told_twice (fun vs H Q E h => by
    obtain ⟨v, n, ts, rfl, W, hn, hlen, q0, q1⟩ := h
    all_goals rfl) fun A outer s H vs Q E hr h => ?_
  obtain ⟨v, n, ts, rfl, W, hn, hlen, q0, q1⟩ := h
  refine ⟨_, pss_cons (ps_set (i := 1) sc__law_told_twice.nd rfl (.inl rfl) (pe_non))
     (pss_cons (L2N.ps_try_as (i := 2) rfl rfl sc__law_told_twice.nd rfl rfl ⟨rfl, by decide, .inl (XC.g "WebsError" (by decide +kernel))⟩ takesNN (fun W pn xe tk hp => pss_one (ps_set (i := 1) sc__law_told_twice.nd rfl (.inl rfl) (pe_callS G_doubled_web (hr.mono (by decide)) (by rfl) D_doubled_web.g D_doubled_web.F.kp D_doubled_web.b (fun σ => L2N.passAt tk σ) (pa_cons (pv 0) pa_nil)))) (fun a oe cls d pn hz hf => pss_one (ps_set (i := 1) sc__law_told_twice.nd rfl (.inl rfl) (hot_callC G__law_refused_with (hr.mono (j := 1) (by decide)).dp (hr.mono (j := 1) (by decide)).un (hot1S hz hf) List.mem_cons_self hz hf (by rfl) D__law_refused_with.g D__law_refused_with.F.kp D__law_refused_with.b (pa_cons (pv 2) pa_nil)))))
     (pss_one (ps_ret (pv 1)))), ?_⟩
  have LB := line_big
  refine ⟨_, rfl, v, n, ts, rfl, W, hn, hlen, fun h H1 v1 k1 W1 => ?_, fun h H1 k1 => ⟨true, XC.exm (by decide +kernel), fun _ e0 ne0 => ?_, fun z => nomatch z⟩⟩
  · exact ⟨_, rfl, q0 h H1 v1 k1 W1⟩
  · exact ⟨_, rfl, rfl, rfl, rfl, fun H2 l k2 nl hl => ⟨_, rfl, q1 h H2 l (k1.trans k2) (k1.dom _ nl) hl⟩⟩
theorem ok__law_told_often {P : Program} {w : World} {K : PySem.W.Frag} {mg : Str → Option Value} {base : Heap} {tb : List Addr} {f : Addr} {fd : FuncData} {f_copies_of : Addr} {fd_copies_of : FuncData} {f__law_refused_with : Addr} {fd__law_refused_with : FuncData} (T : Blt mg) (D__law_told_often : DefAt K mg "_law_told_often" s_law_told_often ["_law_web_here", "_law_c"] f fd) (XC : Xcs xfs K mg) (D_copies_of : DefAt K mg "copies_of" s_copies_of ["web", "c"] f_copies_of fd_copies_of) (G_copies_of : FnOk P w K mg base (L2N.CX P w) 2 f_copies_of fd_copies_of ["web", "c"] (sp_copies_of K tb)) (D__law_refused_with : DefAt K mg "_law_refused_with" s_law_refused_with ["_law_error"] f__law_refused_with fd__law_refused_with) (G__law_refused_with : FnHC P w K mg base  1 f__law_refused_with fd__law_refused_with ["_law_error"] (sp__law_refused_with K tb)) :
    FnOk P w K mg base CX0 3 f fd ["_law_web_here", "_law_c"] (sp__law_told_often K tb) := by
  refine D__law_told_often.ok sc__law_told_often (fun vs H Q E h => by
    obtain ⟨v, n, ts, c, rfl, W, hn, hlen, hc, q0, q1⟩ := h
    all_goals rfl) fun A outer s H vs Q E hr h => ?_
  obtain ⟨v, n, ts, c, rfl, W, hn, hlen, hc, q0, q1⟩ := h
  refine ⟨_, pss_cons (ps_set (i := 2) sc__law_told_often.nd rfl (.inl rfl) (pe_non))
     (pss_cons (L2N.ps_try_as (i := 3) rfl rfl sc__law_told_often.nd rfl rfl ⟨rfl, by decide, .inl (XC.g "WebsError" (by decide +kernel))⟩ takesNN (fun W pn xe tk hp => pss_one (ps_set (i := 2) sc__law_told_often.nd rfl (.inl rfl) (pe_callS G_copies_of (hr.mono (by decide)) (by rfl) D_copies_of.g D_copies_of.F.kp D_copies_of.b (fun σ => L2N.passAt tk σ) (pa_cons (pv 0) (pa_cons (pv 1) pa_nil))))) (fun a oe cls d pn hz hf => pss_one (ps_set (i := 2) sc__law_told_often.nd rfl (.inl rfl) (hot_callC G__law_refused_with (hr.mono (j := 1) (by decide)).dp (hr.mono (j := 1) (by decide)).un (hot1S hz hf) List.mem_cons_self hz hf (by rfl) D__law_refused_with.g D__law_refused_with.F.kp D__law_refused_with.b (pa_cons (pv 3) pa_nil)))))
     (pss_one (ps_ret (pv 2)))), ?_⟩
  have LB := line_big
  refine ⟨_, rfl, _, rfl, v, n, ts, c, rfl, W, hn, hlen, hc, fun h H1 v1 k1 W1 => ?_, fun h H1 k1 => ⟨true, XC.exm (by decide +kernel), fun _ e0 ne0 => ?_, fun z => nomatch z⟩⟩
  · exact ⟨_, rfl, q0 h H1 v1 k1 W1⟩
  · exact ⟨_, rfl, rfl, rfl, rfl, fun H2 l k2 nl hl => ⟨_, rfl, q1 h H2 l (k1.trans k2) (k1.dom _ nl) hl⟩⟩
theorem ok__law_copies_hold {P : Program} {w : World} {K : PySem.W.Frag} {mg : Str → Option Value} {base : Heap} {tb : List Addr} {f : Addr} {fd : FuncData} {f__law_next : Addr} {fd__law_next : FuncData} {f__law_told_often : Addr} {fd__law_told_often : FuncData} (T : Blt mg) (D__law_copies_hold : DefAt K mg "_law_copies_hold" s_law_copies_hold ["_law_deck_here", "_law_web_here"] f fd) (XC : Xcs xfs K mg) (D__law_next : DefAt K mg "_law_next" s_law_next ["_law_deck_here"] f__law_next fd__law_next) (G__law_next : FnOk P w K mg base CX0 1 f__law_next fd__law_next ["_law_deck_here"] (sp__law_next K tb)) (D__law_told_often : DefAt K mg "_law_told_often" s_law_told_often ["_law_web_here", "_law_c"] f__law_told_often fd__law_told_often) (G__law_told_often : FnOk P w K mg base CX0 3 f__law_told_often fd__law_told_often ["_law_web_here", "_law_c"] (sp__law_told_often K tb)) :
    FnOk P w K mg base CX0 4 f fd ["_law_deck_here", "_law_web_here"] (sp__law_copies_hold K tb) := by
  refine D__law_copies_hold.ok sc__law_copies_hold (fun vs H Q E h => by
    obtain ⟨p, v, n, ts, rfl, hd, W, hn1, hn2, hlen, q⟩ := h
    all_goals rfl) fun A outer s H vs Q E hr h => ?_
  obtain ⟨p, v, n, ts, rfl, hd, W, hn1, hn2, hlen, q⟩ := h
  refine ⟨_, pss_cons (ps_for PassesOwn.never rfl (pi_list (pe_lst (pa_cons (pe_int) (pa_cons (pe_int) (pa_cons (pe_int) (pa_cons (pe_int) (pa_cons (pe_op op_add (pe_int) (pe_op op_mod (pe_call G__law_next (hr.mono (by decide)) (by rfl) D__law_next.g D__law_next.F.kp D__law_next.b .nil pass0 (pa_cons (pv 0) pa_nil)) (pe_int))) (pa_cons (pe_int) pa_nil)))))))) (pg_name (i := 2) sc__law_copies_hold.nd rfl (.inl rfl))
     (pss_cons (ps_set (i := 3) sc__law_copies_hold.nd rfl (.inl rfl) (pe_tup (pa_cons (pe_ix (ix_tupK (K := K)) (pv 1) (pe_int) (fun _ _ => rfl)) (pa_cons (pe_op (repE (K := K)) (pe_ix (ix_tupK (K := K)) (pv 1) (pe_int) (fun _ _ => rfl)) (pv 2)) pa_nil))))
     (C8.pss_cut (ps_if (pt_cmpR op_gt (pe_op op_mul (pv 2) (pe_callB (lenK (K := K)) (by rfl) T.b_len PySem.boot_len (pa_cons (pe_ix (ix_tupK (K := K)) (pv 1) (pe_int) (fun _ _ => rfl)) pa_nil))) (pe_int) (nomark _))
     (pss_one (ps_set (i := 3) sc__law_copies_hold.nd rfl (.inl rfl) (pe_lst (pa_cons (pe_str) (pa_cons (pe_bl) pa_nil)))))
     (pss_nil))
     (pss_one (ps_if (pt_cmpR (neDK (K := K) hr.units) (pe_call G__law_told_often (hr.mono (by decide)) (by rfl) D__law_told_often.g D__law_told_often.F.kp D__law_told_often.b .nil pass0 (pa_cons (pv 1) (pa_cons (pv 2) pa_nil))) (pv 3) (nomark _))
     (pss_one (ps_ret (pe_bl)))
     (pss_nil))))))
     (pss_one (ps_ret (pe_bl))), ?_⟩
  have LB := line_big
  obtain ⟨t, u, rs, rfl, ht, hu, hT⟩ := id W
  have hrl := hT.length
  refine ⟨_, rfl, p, rfl, hd, fun r H1 r0 r1 k1 => ?_⟩
  have er := emod_bds r (n := 120) (by decide)
  refine ⟨_, _, rfl, rfl, by show (0 : Int) < 120; decide, _, _, rfl, rfl, by show 6 ≤ sizeLine; decide, fun lb nlb => ?_⟩
  have kb := Ke.new (S := fun _ => False) (o := .lst [.int 1, .int 2, .int 3, .int 4, .int (1 + r % 120), .int 120]) nlb
  have gb : (upd H1 lb (.lst [.int 1, .int 2, .int 3, .int 4, .int (1 + r % 120), .int 120])) lb = some (.lst [.int 1, .int 2, .int 3, .int 4, .int (1 + r % 120), .int 120]) := upd_same
  have k1b := k1.ke kb
  refine ⟨lb, rfl, ⟨_, sqL_of gb⟩, ?_⟩
  refine for_list (K := K) (a := lb) (xs := [.int 1, .int 2, .int 3, .int 4, .int (1 + r % 120), .int 120]) (fun i σ G => ∃ (y2 y3 : Option V), σ = [some (.ref p), some (.ref t), y2, y3] ∧ Ke (upd H1 lb (.lst [.int 1, .int 2, .int 3, .int 4, .int (1 + r % 120), .int 120])) G) ⟨none, none, rfl, .refl⟩ (fun i σ G _ hG => ?_) (fun i x σ G hx hG => ?_) (fun σ G hG => ?_)
  · obtain ⟨_, _, _, kG⟩ := hG
    exact sqL_of (Ke.lst kG gb)
  · obtain ⟨y2, y3, rfl, kG⟩ := hG
    obtain ⟨c, rfl, hc1, hc2⟩ : ∃ c : Nat, x = .int (c : Int) ∧ 1 ≤ c ∧ c ≤ 120 := by
      have hm := List.mem_of_getElem? hx
      simp only [List.mem_cons, List.not_mem_nil, or_false] at hm
      rcases hm with rfl | rfl | rfl | rfl | rfl | rfl
      · exact ⟨1, rfl, by decide, by decide⟩
      · exact ⟨2, rfl, by decide, by decide⟩
      · exact ⟨3, rfl, by decide, by decide⟩
      · exact ⟨4, rfl, by decide, by decide⟩
      · exact ⟨(1 + r % 120).toNat, by rw [Int.toNat_of_nonneg (by omega)], by omega, by omega⟩
      · exact ⟨120, rfl, by decide, by decide⟩
    have kHG := k1b.ke kG
    have WG := W.dk kHG hd
    have htG := kHG.tup hd ht
    have huG := kHG.tup hd hu
    have hTG := hT.dk kHG hd
    have hcl : c * ts.length ≤ 120 * 12 := Nat.mul_le_mul hc2 hlen
    refine ⟨_, rfl, t, _, 0, _, rfl, rfl, sqT_of htG, atI_nat (j := 0) rfl, _, rfl, t, _, 1, _, rfl, rfl, sqT_of htG, atI_nat (j := 1) rfl, _, rfl, u, _, rs, rfl, rfl, huG, by omega, by omega, by omega, fun y H2 k2 hy => ?_⟩
    rw [Int.toNat_natCast] at hy
    refine ⟨by show 2 ≤ sizeLine; decide, fun z nz => ?_⟩
    have kz := Ke.new (S := fun _ => False) (o := .tup [.int n, .ref y]) nz
    have k2z := k2.trans kz
    have Wz : Web (upd H2 z (.tup [.int n, .ref y])) (.ref z) n (List.replicate c ts).flatten := ⟨z, y, _, rfl, upd_same, Ke.tup kz hy, (hTG.ke k2z).reps c⟩
    generalize upd H2 z _ = H3 at *
    refine ⟨fun σ G' => ∃ a : Addr, σ = [some (.ref p), some (.ref t), some (.int (c : Int)), some (.ref a)] ∧ Ke G G' ∧ ((c * ts.length ≤ 120 ∧ Web G' (.ref a) n (List.replicate c ts).flatten) ∨ (120 < c * ts.length ∧ G' a = some (.lst [.str "refused", .bl true]))), ?_, fun σ G' hG' => ?_⟩
    · refine ⟨_, rfl, _, rfl, t, _, 1, _, rfl, rfl, sqT_of (Ke.tup k2z htG), atI_nat (j := 1) rfl, u, _, rfl, .inr (sqT_of (Ke.tup k2z huG)), _, _, rfl, rfl, .inl ⟨by omega, by omega⟩, _, _, rfl, rfl, _, rfl, ?_⟩
      rw [hrl, ← Int.natCast_mul]
      refine iteB (fun h => ?_) (fun h => ?_)
      · have h := of_decide_eq_true h
        refine ⟨by show 2 ≤ sizeLine; decide, fun l nl => ⟨l, rfl, k2z.trans (Ke.new nl), .inr ⟨by omega, upd_same⟩⟩⟩
      · have h := of_decide_eq_false h
        exact ⟨z, rfl, k2z, .inl ⟨by omega, Wz⟩⟩
    obtain ⟨a, rfl, k4, hcase⟩ := hG'
    refine ⟨_, rfl, _, rfl, .ref t, n, ts, c, rfl, WG.ke k4, hn2, by omega, hc2, fun h H5 v5 k5 W5 => ?_, fun h H5 l k5 nl hl => ?_⟩
    · rcases hcase with ⟨_, Wa⟩ | ⟨h2, _⟩
      · refine ⟨_, rfl, _, _, W5.dp, (Wa.ke k5).dp, (dWeb_sh _ _).shaped, (dWeb_sh _ _).shaped, ?_⟩
        rw [eqv_sh (dWeb_sh _ _).shaped]
        exact ⟨_, rfl, iteF ⟨_, _, rfl, kG.trans (k4.trans k5)⟩⟩
      · omega
    · rcases hcase with ⟨h2, _⟩ | ⟨_, ha⟩
      · omega
      · refine ⟨_, rfl, _, _, refD_dp hl, refD_dp (Ke.lst k5 ha), refD_sh, refD_sh, ?_⟩
        rw [eqv_sh refD_sh]
        exact ⟨_, rfl, iteF ⟨_, _, rfl, kG.trans (k4.trans k5)⟩⟩
  · obtain ⟨_, _, rfl, kG⟩ := hG
    exact q _ (k1b.ke kG)
theorem ok__law_beside {P : Program} {w : World} {K : PySem.W.Frag} {mg : Str → Option Value} {base : Heap} {tb : List Addr} {f : Addr} {fd : FuncData} (T : Blt mg) (D__law_beside : DefAt K mg "_law_beside" s_law_beside ["_law_one", "_law_other"] f fd) (XC : Xcs xfs K mg) :
    FnOk P w K mg base CX0 1 f fd ["_law_one", "_law_other"] (sp__law_beside K tb) := by
  refine D__law_beside.ok sc__law_beside (fun vs H Q E h => by
    obtain ⟨v1, v2, n1, n2, ts, us, rfl, W1, W2, hn1, hn2, hl1, hl2, q0, q1⟩ := h
    all_goals rfl) fun A outer s H vs Q E hr h => ?_
  obtain ⟨v1, v2, n1, n2, ts, us, rfl, W1, W2, hn1, hn2, hl1, hl2, q0, q1⟩ := h
  refine ⟨_, pss_cons (ps_if (PW.pt (pw_or (pt_cmpR op_gt (pe_op op_add (pe_ix (ix_tupK (K := K)) (pv 0) (pe_int) (fun _ _ => rfl)) (pe_ix (ix_tupK (K := K)) (pv 1) (pe_int) (fun _ _ => rfl))) (pe_int) (nomark _)) (pw_or1 (pt_cmpR op_gt (pe_op op_add (pe_callB (lenK (K := K)) (by rfl) T.b_len PySem.boot_len (pa_cons (pe_ix (ix_tupK (K := K)) (pv 0) (pe_int) (fun _ _ => rfl)) pa_nil)) (pe_callB (lenK (K := K)) (by rfl) T.b_len PySem.boot_len (pa_cons (pe_ix (ix_tupK (K := K)) (pv 1) (pe_int) (fun _ _ => rfl)) pa_nil))) (pe_int) (nomark _)))))
     (pss_one (ps_ret (pe_lst (pa_cons (pe_str) (pa_cons (pe_bl) pa_nil)))))
     (pss_nil))
     (pss_one (ps_ret (pe_tup (pa_cons (pe_op op_add (pe_ix (ix_tupK (K := K)) (pv 0) (pe_int) (fun _ _ => rfl)) (pe_ix (ix_tupK (K := K)) (pv 1) (pe_int) (fun _ _ => rfl))) (pa_cons (pe_op (catU (K := K)) (pe_ix (ix_tupK (K := K)) (pv 0) (pe_int) (fun _ _ => rfl)) (pe_callTy (tupleK (K := K)) (by rfl) T.b_tuple (by decide +kernel) (pa_cons (pe_lc (own := [("_law_a", 2), ("_law_b", 3)]) rfl sc__law_beside.nd (pi_tup (pe_ix (ix_tupK (K := K)) (pv 1) (pe_int) (fun _ _ => rfl))) (blkOk_by (own := [("_law_a", 2), ("_law_b", 3)]) (N := nm__law_beside) (sc := defScope s_law_beside) (by decide +kernel)) (fun _ _ _ _ _ => tgtK (K := K) (n := 2) (pgs_cons (pg_name (i := 2) sc__law_beside.nd rfl (.inl rfl)) (pgs_cons (pg_name (i := 3) sc__law_beside.nd rfl (.inl rfl)) pgs_nil))) (fun _ _ _ _ _ => pts_nil) (fun _ _ _ _ _ => pe_tup (pa_cons (pe_op op_add (pe_ix (ix_tupK (K := K)) (pv 0) (pe_int) (fun _ _ => rfl)) (pv 2)) (pa_cons (pe_op op_add (pe_ix (ix_tupK (K := K)) (pv 0) (pe_int) (fun _ _ => rfl)) (pv 3)) pa_nil)))) pa_nil))) pa_nil))))), ?_⟩
  have LB := line_big
  obtain ⟨tw1, wu1, rs1, rfl, htw1, hwu1, hT1⟩ := id W1
  obtain ⟨tw2, wu2, rs2, rfl, htw2, hwu2, hT2⟩ := id W2
  have hr1 := hT1.length
  have hr2 := hT2.length
  refine ⟨_, rfl, tw1, _, 0, _, rfl, rfl, sqT_of htw1, atI_nat (j := 0) rfl, _, rfl, tw2, _, 0, _, rfl, rfl, sqT_of htw2, atI_nat (j := 0) rfl, _, _, rfl, rfl, _, _, rfl, rfl, _, rfl, iteB (fun h => ?_) (fun h => ?_)⟩
  · exact iteT ⟨by show 2 ≤ sizeLine; decide, fun l nl => q1 (by have := of_decide_eq_true h; omega) _ l (Ke.new nl) nl upd_same⟩
  have h40 : n1 + n2 ≤ 40 := by have := of_decide_eq_false h; omega
  refine ⟨_, rfl, tw1, _, 1, _, rfl, rfl, sqT_of htw1, atI_nat (j := 1) rfl, wu1, _, rfl, .inr (sqT_of hwu1), _, rfl, tw2, _, 1, _, rfl, rfl, sqT_of htw2, atI_nat (j := 1) rfl, wu2, _, rfl, .inr (sqT_of hwu2), _, _, rfl, rfl, _, _, rfl, rfl, _, rfl, iteB (fun h => ?_) (fun h => ?_)⟩
  · exact ⟨by show 2 ≤ sizeLine; decide, fun l nl => q1 (by have := of_decide_eq_true h; omega) _ l (Ke.new nl) nl upd_same⟩
  have h120 : ts.length + us.length ≤ 120 := by have := of_decide_eq_false h; omega
  refine ⟨_, rfl, tw1, _, 0, _, rfl, rfl, sqT_of htw1, atI_nat (j := 0) rfl, _, rfl, tw2, _, 0, _, rfl, rfl, sqT_of htw2, atI_nat (j := 0) rfl, _, _, rfl, rfl, _, rfl, tw1, _, 1, _, rfl, rfl, sqT_of htw1, atI_nat (j := 1) rfl, _, rfl, tw2, _, 1, _, rfl, rfl, sqT_of htw2, atI_nat (j := 1) rfl, wu2, rfl, ⟨_, sqT_of hwu2⟩, fun D nD => ?_⟩
  refine lc_tup (K := K) (a := wu2) (xs := rs2) (fun i G => ∃ xs, Ke H G ∧ G D = some (.lst xs) ∧ Ties G xs (ledT n1 (us.take i))) ⟨[], Ke.new nD, upd_same, .nil⟩ (fun i G _ hG => ?_) (fun i x G hx hG => ?_) (fun G hG => ?_)
  · obtain ⟨_, kG, _⟩ := hG
    exact sqT_of (Ke.tup kG hwu2)
  · obtain ⟨xs, kG, gD, hX⟩ := hG
    obtain ⟨⟨a, b⟩, r, hti, rfl, hr⟩ := hT2.get hx
    have hrG := Ke.tup kG hr
    have htG := Ke.tup kG htw1
    have hxl := hX.length
    unfold ledT at hxl
    rw [List.length_map, List.length_take] at hxl
    refine ⟨r, _, rfl, sqT_of hrG, rfl, _, _, rfl, _, [], rfl, rfl, rfl, yes_ite ?_⟩
    refine ⟨_, rfl, tw1, _, 0, _, rfl, rfl, sqT_of htG, atI_nat (j := 0) rfl, _, rfl, _, _, rfl, rfl, _, rfl, tw1, _, 0, _, rfl, rfl, sqT_of htG, atI_nat (j := 0) rfl, _, rfl, _, _, rfl, rfl, by show 2 ≤ sizeLine; decide, fun z nz => ?_⟩
    have gD2 := lst_new (o := .tup [.int (n1 + a), .int (n1 + b)]) nz gD
    refine ⟨xs, gD2, by omega, _, (kG.trans (Ke.new nz)).over nD, upd_same, ?_⟩
    rw [take_next hti]
    unfold ledT
    rw [List.map_append]
    exact ((hX.new nz).append (Ties.one upd_same)).put gD2
  · obtain ⟨xs, kG, gD, hX⟩ := hG
    rw [hr2, List.take_length] at hX
    have hxl := hX.length
    have e : (ledT n1 us).length = us.length := List.length_map _
    refine ⟨D, xs, rfl, .inl ⟨sqL_of gD, fun c nc => ?_⟩⟩
    have kc := kG.trans (Ke.new (S := fun _ => False) (o := .tup xs) nc)
    refine ⟨wu1, c, rs1, xs, rfl, rfl, Ke.tup kc hwu1, upd_same, by omega, fun d H4 k4 h4 => ?_⟩
    refine ⟨by show 2 ≤ sizeLine; decide, fun z nz => ?_⟩
    have kz := Ke.new (S := fun _ => False) (o := .tup [.int (n1 + n2), .ref d]) nz
    exact q0 ⟨h40, h120⟩ _ _ (kc.trans (k4.trans kz)) ⟨z, d, _, rfl, upd_same, Ke.tup kz h4, ((hT1.ke kc).append (hX.new nc)).ke (k4.trans kz)⟩
theorem ok__law_doubled {P : Program} {w : World} {K : PySem.W.Frag} {mg : Str → Option Value} {base : Heap} {tb : List Addr} {f : Addr} {fd : FuncData} (T : Blt mg) (D__law_doubled : DefAt K mg "_law_doubled" s_law_doubled ["_law_web_here"] f fd) (XC : Xcs xfs K mg) :
    FnOk P w K mg base CX0 1 f fd ["_law_web_here"] (sp__law_doubled K tb) := by
  refine D__law_doubled.ok sc__law_doubled (fun vs H Q E h => by
    obtain ⟨v, n, ts, rfl, W, hn, hlen, q0, q1⟩ := h
    all_goals rfl) fun A outer s H vs Q E hr h => ?_
  obtain ⟨v, n, ts, rfl, W, hn, hlen, q0, q1⟩ := h
  refine ⟨_, pss_cons (ps_if (pt_cmpR op_gt (pe_op op_mul (pe_int) (pe_callB (lenK (K := K)) (by rfl) T.b_len PySem.boot_len (pa_cons (pe_ix (ix_tupK (K := K)) (pv 0) (pe_int) (fun _ _ => rfl)) pa_nil))) (pe_int) (nomark _))
     (pss_one (ps_ret (pe_lst (pa_cons (pe_str) (pa_cons (pe_bl) pa_nil)))))
     (pss_nil))
     (pss_one (ps_ret (pe_tup (pa_cons (pe_ix (ix_tupK (K := K)) (pv 0) (pe_int) (fun _ _ => rfl)) (pa_cons (pe_op (catU (K := K)) (pe_ix (ix_tupK (K := K)) (pv 0) (pe_int) (fun _ _ => rfl)) (pe_ix (ix_tupK (K := K)) (pv 0) (pe_int) (fun _ _ => rfl))) pa_nil))))), ?_⟩
  have LB := line_big
  obtain ⟨t, u, rs, rfl, ht, hu, hT⟩ := id W
  have hrl := hT.length
  refine ⟨_, rfl, t, _, 1, _, rfl, rfl, sqT_of ht, atI_nat (j := 1) rfl, u, _, rfl, .inr (sqT_of hu), _, _, rfl, rfl, .inl ⟨by decide, by decide⟩, _, _, rfl, rfl, _, rfl, iteB (fun h => ?_) (fun h => ?_)⟩
  · exact ⟨by show 2 ≤ sizeLine; decide, fun l nl => q1 (by have := of_decide_eq_true h; omega) _ l (Ke.new nl) nl upd_same⟩
  · have h2 : 2 * ts.length ≤ 120 := by have := of_decide_eq_false h; omega
    refine ⟨_, rfl, t, _, 0, _, rfl, rfl, sqT_of ht, atI_nat (j := 0) rfl, _, rfl, t, _, 1, _, rfl, rfl, sqT_of ht, atI_nat (j := 1) rfl, _, rfl, t, _, 1, _, rfl, rfl, sqT_of ht, atI_nat (j := 1) rfl, u, u, rs, rs, rfl, rfl, hu, hu, by omega, fun y H1 k1 hy => ?_⟩
    refine ⟨by show 2 ≤ sizeLine; decide, fun z nz => ?_⟩
    have kz := Ke.new (S := fun _ => False) (o := .tup [.int n, .ref y]) nz
    exact q0 h2 _ _ (k1.trans kz) ⟨z, y, rs ++ rs, rfl, upd_same, Ke.tup kz hy, (hT.append hT).ke (k1.trans kz)⟩
theorem ok__law_great {P : Program} {w : World} {K : PySem.W.Frag} {mg : Str → Option Value} {base : Heap} {tb : List Addr} {f : Addr} {fd : FuncData} {f__law_next : Addr} {fd__law_next : FuncData} {f__law_tie : Addr} {fd__law_tie : FuncData} {f__law_told : Addr} {fd__law_told : FuncData} {f__law_told_twice : Addr} {fd__law_told_twice : FuncData} {f__law_beside : Addr} {fd__law_beside : FuncData} {f__law_doubled : Addr} {fd__law_doubled : FuncData} (T : Blt mg) (D__law_great : DefAt K mg "_law_great" s_law_great ["_law_deck_here"] f fd) (XC : Xcs xfs K mg) (D__law_next : DefAt K mg "_law_next" s_law_next ["_law_deck_here"] f__law_next fd__law_next) (G__law_next : FnOk P w K mg base CX0 1 f__law_next fd__law_next ["_law_deck_here"] (sp__law_next K tb)) (D__law_tie : DefAt K mg "_law_tie" s_law_tie ["_law_deck_here", "_law_points"] f__law_tie fd__law_tie) (G__law_tie : FnOk P w K mg base CX0 2 f__law_tie fd__law_tie ["_law_deck_here", "_law_points"] (sp__law_tie K tb)) (D__law_told : DefAt K mg "_law_told" s_law_told ["_law_one", "_law_other"] f__law_told fd__law_told) (G__law_told : FnOk P w K mg base CX0 8 f__law_told fd__law_told ["_law_one", "_law_other"] (sp__law_told K tb)) (D__law_told_twice : DefAt K mg "_law_told_twice" s_law_told_twice ["_law_web_here"] f__law_told_twice fd__law_told_twice) (G__law_told_twice : FnOk P w K mg base CX0 4 f__law_told_twice fd__law_told_twice ["_law_web_here"] (sp__law_told_twice K tb)) (D__law_beside : DefAt K mg "_law_beside" s_law_beside ["_law_one", "_law_other"] f__law_beside fd__law_beside) (G__law_beside : FnOk P w K mg base CX0 1 f__law_beside fd__law_beside ["_law_one", "_law_other"] (sp__law_beside K tb)) (D__law_doubled : DefAt K mg "_law_doubled" s_law_doubled ["_law_web_here"] f__law_doubled fd__law_doubled) (G__law_doubled : FnOk P w K mg base CX0 1 f__law_doubled fd__law_doubled ["_law_web_here"] (sp__law_doubled K tb)) :
    FnOk P w K mg base CX0 9 f fd ["_law_deck_here"] (sp__law_great K tb) := by
  refine D__law_great.ok sc__law_great (fun vs H Q E h => by
    obtain ⟨p, rfl, hd, hT0, q⟩ := h
    all_goals rfl) fun A outer s H vs Q E hr h => ?_
  obtain ⟨p, rfl, hd, hT0, q⟩ := h
  refine ⟨_, pss_cons (ps_set (i := 1) sc__law_great.nd rfl (.inr rfl) (pe_op op_add (pe_int) (pe_op op_mod (pe_call G__law_next (hr.mono (by decide)) (by rfl) D__law_next.g D__law_next.F.kp D__law_next.b .nil pass0 (pa_cons (pv 0) pa_nil)) (pe_int))))
     (pss_cons (ps_set (i := 2) sc__law_great.nd rfl (.inl rfl) (pe_op op_add (pe_int) (pe_op op_mod (pe_call G__law_next (hr.mono (by decide)) (by rfl) D__law_next.g D__law_next.F.kp D__law_next.b .nil pass0 (pa_cons (pv 0) pa_nil)) (pe_int))))
     (pss_cons (ps_set (i := 4) sc__law_great.nd rfl (.inl rfl) (pe_tup (pa_cons (pe_int) (pa_cons (pe_callTy (tupleK (K := K)) (by rfl) T.b_tuple (by decide +kernel) (pa_cons (pe_lc (own := [("_law_j", 3)]) rfl sc__law_great.nd (pi_range1 (by rfl) T.b_range (pa_cons (pe_int) pa_nil)) (blkOk_by (own := [("_law_j", 3)]) (N := nm__law_great) (sc := defScope s_law_great) (by decide +kernel)) (fun _ _ _ _ _ => pg_name (i := 3) sc__law_great.nd rfl (.inl rfl)) (fun _ _ _ _ _ => pts_nil) (fun _ _ _ _ _ => pe_call G__law_tie (hr.mono (by decide)) (by rfl) D__law_tie.g D__law_tie.F.kp D__law_tie.b .nil pass0 (pa_cons (pv 0) (pa_cons (pe_int) pa_nil)))) pa_nil)) pa_nil))))
     (pss_cons (ps_set (i := 5) sc__law_great.nd rfl (.inl rfl) (pe_tup (pa_cons (pv 1) (pa_cons (pe_callTy (tupleK (K := K)) (by rfl) T.b_tuple (by decide +kernel) (pa_cons (pe_lc (own := [("_law_j", 3)]) rfl sc__law_great.nd (pi_range1 (by rfl) T.b_range (pa_cons (pv 2) pa_nil)) (blkOk_by (own := [("_law_j", 3)]) (N := nm__law_great) (sc := defScope s_law_great) (by decide +kernel)) (fun _ _ _ _ _ => pg_name (i := 3) sc__law_great.nd rfl (.inl rfl)) (fun _ _ _ _ _ => pts_nil) (fun _ _ _ _ _ => pe_call G__law_tie (hr.mono (by decide)) (by rfl) D__law_tie.g D__law_tie.F.kp D__law_tie.b .nil pass0 (pa_cons (pv 0) (pa_cons (pv 1) pa_nil)))) pa_nil)) pa_nil))))
     (pss_cons (ps_if (PW.pt (pw_or (pt_cmpR (neDK (K := K) hr.units) (pe_call G__law_told (hr.mono (by decide)) (by rfl) D__law_told.g D__law_told.F.kp D__law_told.b .nil pass0 (pa_cons (pv 4) (pa_cons (pv 5) pa_nil))) (pe_call G__law_beside (hr.mono (by decide)) (by rfl) D__law_beside.g D__law_beside.F.kp D__law_beside.b .nil pass0 (pa_cons (pv 4) (pa_cons (pv 5) pa_nil))) (nomark _)) (pw_or1 (pt_cmpR (neDK (K := K) hr.units) (pe_call G__law_told (hr.mono (by decide)) (by rfl) D__law_told.g D__law_told.F.kp D__law_told.b .nil pass0 (pa_cons (pv 5) (pa_cons (pv 4) pa_nil))) (pe_call G__law_beside (hr.mono (by decide)) (by rfl) D__law_beside.g D__law_beside.F.kp D__law_beside.b .nil pass0 (pa_cons (pv 5) (pa_cons (pv 4) pa_nil))) (nomark _)))))
     (pss_one (ps_ret (pe_bl)))
     (pss_nil))
     (pss_cons (ps_if (PW.pt (pw_or (pt_cmpR (neDK (K := K) hr.units) (pe_call G__law_told (hr.mono (by decide)) (by rfl) D__law_told.g D__law_told.F.kp D__law_told.b .nil pass0 (pa_cons (pe_tup (pa_cons (pe_int) (pa_cons (pe_tup pa_nil) pa_nil))) (pa_cons (pe_tup (pa_cons (pe_int) (pa_cons (pe_tup pa_nil) pa_nil))) pa_nil))) (pe_tup (pa_cons (pe_int) (pa_cons (pe_tup pa_nil) pa_nil))) (nomark _)) (pw_or1 (pt_cmpR (neDK (K := K) hr.units) (pe_call G__law_told (hr.mono (by decide)) (by rfl) D__law_told.g D__law_told.F.kp D__law_told.b .nil pass0 (pa_cons (pe_tup (pa_cons (pe_int) (pa_cons (pe_tup pa_nil) pa_nil))) (pa_cons (pe_tup (pa_cons (pe_int) (pa_cons (pe_tup pa_nil) pa_nil))) pa_nil))) (pe_lst (pa_cons (pe_str) (pa_cons (pe_bl) pa_nil))) (nomark _)))))
     (pss_one (ps_ret (pe_bl)))
     (pss_nil))
     (pss_one (ps_ret (pe_and (pe_cmpR (eqDK (K := K) hr.units) (pe_call G__law_told_twice (hr.mono (by decide)) (by rfl) D__law_told_twice.g D__law_told_twice.F.kp D__law_told_twice.b .nil pass0 (pa_cons (pv 5) pa_nil)) (pe_call G__law_doubled (hr.mono (by decide)) (by rfl) D__law_doubled.g D__law_doubled.F.kp D__law_doubled.b .nil pass0 (pa_cons (pv 5) pa_nil)) (nomark _)) (pe_one (pe_cmpR (eqDK (K := K) hr.units) (pe_call G__law_told_twice (hr.mono (by decide)) (by rfl) D__law_told_twice.g D__law_told_twice.F.kp D__law_told_twice.b .nil pass0 (pa_cons (pe_tup (pa_cons (pe_int) (pa_cons (pe_tup pa_nil) pa_nil))) pa_nil)) (pe_tup (pa_cons (pe_int) (pa_cons (pe_tup pa_nil) pa_nil))) (nomark _))))))))))), ?_⟩
  have LB := line_big
  refine ⟨_, rfl, p, rfl, hd, fun r H1 r0 r1 k1 => ?_⟩
  have er := emod_bds r (n := 2) (by decide)
  refine ⟨_, _, rfl, rfl, by show (0 : Int) < 2; decide, _, _, rfl, rfl, ?_⟩
  have d1 := k1.d
  refine ⟨_, rfl, p, rfl, d1, fun r' H2 r0' r1' k2 => ?_⟩
  have er' := emod_bds r' (n := 2) (by decide)
  refine ⟨_, _, rfl, rfl, by show (0 : Int) < 2; decide, _, _, rfl, rfl, ?_⟩
  obtain ⟨m, em⟩ : ∃ m : Int, m = 20 + r % 2 := ⟨_, rfl⟩
  obtain ⟨c, ec⟩ : ∃ c : Nat, (c : Int) = 60 + r' % 2 := ⟨(60 + r' % 2).toNat, by omega⟩
  dsimp -proj -iota only
  rw [← em, ← ec]
  have hm : m = 20 ∨ m = 21 := by omega
  have hc : c = 60 ∨ c = 61 := by omega
  clear em ec
  have d2 := k2.d
  refine ⟨60, rfl, by omega, by omega, fun D nD => ?_⟩
  have nDp : D ≠ p := (d2.ne nD).symm
  refine lc_range (lo := 0) (n := 60) (fun i G' => ∃ (rs : List V) (ts : List (Int × Int)), G' D = some (.lst rs) ∧ Ties G' rs ts ∧ ts.length = i ∧ TOk 20 ts ∧ Dk p H2 G') ⟨[], [], upd_same, .nil, rfl, TOk.nil, (Dk.refl d2).new nD⟩ (fun i G' hi hG => ?_) (fun G' hG => ?_)
  · obtain ⟨rs, ts, gD, gT, hl, hok, kG'⟩ := hG
    refine ⟨rfl, yes_ite ?_⟩
    refine ⟨_, rfl, p, 20, rfl, kG'.d, by omega, fun a b t G1 a0 ab b1 kG1 nt => ?_⟩
    have gD1 : G1 D = some (.lst rs) := kG1.lst gD nDp
    have gD2 : upd G1 t (.tup [.int a, .int b]) D = some (.lst rs) := by rw [upd_ne (ne_of_none gD1 nt)]; exact gD1
    refine ⟨rs, gD2, ?_, rs ++ [.ref t], ts ++ [(a, b)], upd_same, ((((gT.dk kG1 kG'.d).new nt).append (Ties.one upd_same)).put gD2), by rw [List.length_append, hl]; rfl, hok.append (TOk.one a0 ab b1), ((kG'.trans kG1).new nt).over d2 nD⟩
    rw [gT.length, hl]
    omega
  obtain ⟨qs, ts, gD, gT, hl, hok, kG'⟩ := hG
  refine ⟨D, qs, rfl, .inl ⟨sqL_of gD, fun l nl => ?_⟩⟩
  refine ⟨by show 2 ≤ sizeLine; decide, fun g ng => ?_⟩
  have kg := (kG'.new nl (o := .tup qs)).new ng (o := .tup [.int 20, .ref l])
  have W1 : Web (upd (upd G' l (.tup qs)) g (.tup [.int 20, .ref l])) (.ref g) 20 ts := ⟨g, l, qs, rfl, upd_same, tup_new ng upd_same, (gT.new nl).new ng⟩
  have d3 := kg.d
  generalize upd (upd G' l _) g _ = H3 at *
  refine ⟨_, rfl, _, rfl, _, rfl, by omega, by omega, fun E nE => ?_⟩
  have nEp : E ≠ p := (d3.ne nE).symm
  refine lc_range (lo := 0) (n := c) (fun i G' => ∃ (rs : List V) (ts : List (Int × Int)), G' E = some (.lst rs) ∧ Ties G' rs ts ∧ ts.length = i ∧ TOk m ts ∧ Dk p H3 G') ⟨[], [], upd_same, .nil, rfl, TOk.nil, (Dk.refl d3).new nE⟩ (fun i G' hi hG => ?_) (fun G' hG => ?_)
  · obtain ⟨rs, ts, gD, gT, hl, hok, kG'⟩ := hG
    refine ⟨rfl, yes_ite ?_⟩
    refine ⟨_, rfl, _, rfl, p, m, rfl, kG'.d, by omega, fun a b t G1 a0 ab b1 kG1 nt => ?_⟩
    have gD1 : G1 E = some (.lst rs) := kG1.lst gD nEp
    have gD2 : upd G1 t (.tup [.int a, .int b]) E = some (.lst rs) := by rw [upd_ne (ne_of_none gD1 nt)]; exact gD1
    refine ⟨rs, gD2, ?_, rs ++ [.ref t], ts ++ [(a, b)], upd_same, ((((gT.dk kG1 kG'.d).new nt).append (Ties.one upd_same)).put gD2), by rw [List.length_append, hl]; rfl, hok.append (TOk.one a0 ab b1), ((kG'.trans kG1).new nt).over d3 nE⟩
    rw [gT.length, hl]
    omega
  obtain ⟨qs2, us, gD2, gT2, hl2, hok2, kG2⟩ := hG
  refine ⟨E, qs2, rfl, .inl ⟨sqL_of gD2, fun l2 nl2 => ?_⟩⟩
  refine ⟨by show 2 ≤ sizeLine; decide, fun g2 ng2 => ?_⟩
  have kg2 := (kG2.new nl2 (o := .tup qs2)).new ng2 (o := .tup [.int m, .ref l2])
  have W2 : Web (upd (upd G' l2 (.tup qs2)) g2 (.tup [.int m, .ref l2])) (.ref g2) m us := ⟨g2, l2, qs2, rfl, upd_same, tup_new ng2 upd_same, (gT2.new nl2).new ng2⟩
  have W1b := W1.dk kg2 d3
  have kall := ((k1.trans k2).trans kg).trans kg2
  have hT4 := hT0.dk kall
  generalize upd (upd G' l2 _) g2 _ = H4 at *
  apply share1 (R1 := fun G => Ke H4 G)
  case main =>
    intro rest
    refine ⟨_, rfl, _, rfl, .ref g, .ref g2, 20, m, ts, us, rfl, W1b, W2, by omega, by omega, by omega, by omega, hok, hok2, hT4, fun h Ha va ka Wa => ?_, fun h Ha la ka nla hla => ?_⟩
    · refine ⟨_, rfl, _, rfl, .ref g, .ref g2, 20, m, ts, us, rfl, (W1b).ke ka, (W2).ke ka, by omega, by omega, by omega, by omega, fun h2 Hb vb kb Wb => ?_, fun h2 => by omega⟩
      refine ⟨_, _, (Wa.ke kb).dp, Wb.dp, (dWeb_sh _ _).shaped, (dWeb_sh _ _).shaped, ?_⟩
      rw [eqv_sh (dWeb_sh _ _).shaped]
      exact ⟨_, rfl, (if_neg Bool.false_ne_true).mpr (rest Hb (ka.trans kb))⟩
    · refine ⟨_, rfl, _, rfl, .ref g, .ref g2, 20, m, ts, us, rfl, (W1b).ke ka, (W2).ke ka, by omega, by omega, by omega, by omega, fun h2 => by omega, fun h2 Hb lb kb nlb hlb => ?_⟩
      refine ⟨_, _, refD_dp (Ke.lst kb hla), refD_dp hlb, refD_sh, refD_sh, ?_⟩
      rw [eqv_sh refD_sh]
      exact ⟨_, rfl, (if_neg Bool.false_ne_true).mpr (rest Hb (ka.trans kb))⟩
  case h1 =>
    intro H5 k5
    apply share1 (R1 := fun G => Ke H4 G)
    case main =>
      intro rest
      refine ⟨_, rfl, _, rfl, .ref g2, .ref g, m, 20, us, ts, rfl, (W2.ke k5), (W1b.ke k5), by omega, by omega, by omega, by omega, hok2, hok, (hT4.kx k5), fun h Ha va ka Wa => ?_, fun h Ha la ka nla hla => ?_⟩
      · refine ⟨_, rfl, _, rfl, .ref g2, .ref g, m, 20, us, ts, rfl, ((W2.ke k5)).ke ka, ((W1b.ke k5)).ke ka, by omega, by omega, by omega, by omega, fun h2 Hb vb kb Wb => ?_, fun h2 => by omega⟩
        refine ⟨_, _, (Wa.ke kb).dp, Wb.dp, (dWeb_sh _ _).shaped, (dWeb_sh _ _).shaped, ?_⟩
        rw [eqv_sh (dWeb_sh _ _).shaped]
        exact ⟨_, rfl, iteF (rest Hb (k5.trans (ka.trans kb)))⟩
      · refine ⟨_, rfl, _, rfl, .ref g2, .ref g, m, 20, us, ts, rfl, ((W2.ke k5)).ke ka, ((W1b.ke k5)).ke ka, by omega, by omega, by omega, by omega, fun h2 => by omega, fun h2 Hb lb kb nlb hlb => ?_⟩
        refine ⟨_, _, refD_dp (Ke.lst kb hla), refD_dp hlb, refD_sh, refD_sh, ?_⟩
        rw [eqv_sh refD_sh]
        exact ⟨_, rfl, iteF (rest Hb (k5.trans (ka.trans kb)))⟩
    case h1 =>
      intro H6 k6
      refine ⟨by show 0 ≤ sizeLine; decide, fun e1 ne1 => ⟨by show 2 ≤ sizeLine; decide, fun v1 nv1 => ?_⟩⟩
      have w1 := web0 (n := 39) nv1
      have q1 := ke0 (n := 39) ne1 nv1
      generalize upd (upd H6 e1 _) v1 _ = J1 at *
      refine ⟨by show 0 ≤ sizeLine; decide, fun e2 ne2 => ⟨by show 2 ≤ sizeLine; decide, fun v2 nv2 => ?_⟩⟩
      have w2 := web0 (n := 1) nv2
      have q2 := ke0 (n := 1) ne2 nv2
      generalize upd (upd J1 e2 _) v2 _ = J2 at *
      refine ⟨.ref v1, .ref v2, 39, 1, [], [], rfl, w1.ke q2, w2, by decide, by decide, by decide, by decide, TOk.nil, TOk.nil, hT4.kx (k6.trans (q1.trans q2)), fun _ Ha va ka Wa => ?_, fun h => absurd h (by decide)⟩
      have Wa : Web Ha va 40 [] := Wa
      refine ⟨by show 0 ≤ sizeLine; decide, fun e3 ne3 => ⟨by show 2 ≤ sizeLine; decide, fun v3 nv3 => ?_⟩⟩
      have w3 := web0 (n := 40) nv3
      have q3 := ke0 (n := 40) ne3 nv3
      generalize upd (upd Ha e3 _) v3 _ = J3 at *
      refine ⟨_, _, (Wa.ke q3).dp, w3.dp, (dWeb_sh _ _).shaped, (dWeb_sh _ _).shaped, ?_⟩
      rw [eqv_sh (dWeb_sh _ _).shaped]
      refine ⟨_, rfl, (if_neg Bool.false_ne_true).mpr ?_⟩
      have k63 := k6.trans (q1.trans (q2.trans (ka.trans q3)))
      refine ⟨by show 0 ≤ sizeLine; decide, fun e4 ne4 => ⟨by show 2 ≤ sizeLine; decide, fun v4 nv4 => ?_⟩⟩
      have w4 := web0 (n := 40) nv4
      have q4 := ke0 (n := 40) ne4 nv4
      generalize upd (upd J3 e4 _) v4 _ = J4 at *
      refine ⟨by show 0 ≤ sizeLine; decide, fun e5 ne5 => ⟨by show 2 ≤ sizeLine; decide, fun v5 nv5 => ?_⟩⟩
      have w5 := web0 (n := 1) nv5
      have q5 := ke0 (n := 1) ne5 nv5
      generalize upd (upd J4 e5 _) v5 _ = J5 at *
      refine ⟨.ref v4, .ref v5, 40, 1, [], [], rfl, w4.ke q5, w5, by decide, by decide, by decide, by decide, TOk.nil, TOk.nil, hT4.kx (k63.trans (q4.trans q5)), fun h => absurd h (by decide), fun _ Hb lb kb nlb hlb => ?_⟩
      refine ⟨by show 2 ≤ sizeLine; decide, fun l9 nl9 => ?_⟩
      have q9 := Ke.new (S := fun _ => False) (o := .lst [.str "refused", .bl true]) nl9
      refine ⟨refD, refD, refD_dp (Ke.lst q9 hlb), refD_dp upd_same, refD_sh, refD_sh, ?_⟩
      rw [eqv_sh refD_sh]
      refine ⟨_, rfl, iteF ?_⟩
      have k9 := k63.trans (q4.trans (q5.trans (kb.trans q9)))
      generalize upd Hb l9 _ = J9 at *
      have W29 := W2.ke k9
      apply share1 (R1 := fun G => Ke H4 G)
      case main =>
        intro rest
        refine ⟨_, rfl, .ref g2, m, us, rfl, W29, by omega, by omega, fun h Ha va ka Wa => ?_, fun h Ha la ka nla hla => ?_⟩
        · refine ⟨_, rfl, .ref g2, m, us, rfl, W29.ke ka, by omega, by omega, fun h2 Hb vb kb Wb => ?_, fun h2 => by omega⟩
          refine ⟨_, _, (Wa.ke kb).dp, Wb.dp, (dWeb_sh _ _).shaped, (dWeb_sh _ _).shaped, ?_⟩
          rw [eqv_sh (dWeb_sh _ _).shaped]
          exact ⟨true, rfl, (if_pos rfl).mpr (rest Hb (k9.trans (ka.trans kb)))⟩
        · refine ⟨_, rfl, .ref g2, m, us, rfl, W29.ke ka, by omega, by omega, fun h2 => by omega, fun h2 Hb lb kb nlb hlb => ?_⟩
          refine ⟨_, _, refD_dp (Ke.lst kb hla), refD_dp hlb, refD_sh, refD_sh, ?_⟩
          rw [eqv_sh refD_sh]
          exact ⟨true, rfl, (if_pos rfl).mpr (rest Hb (k9.trans (ka.trans kb)))⟩
      case h1 =>
        intro HA kA
        refine ⟨by show 0 ≤ sizeLine; decide, fun e6 ne6 => ⟨by show 2 ≤ sizeLine; decide, fun v6 nv6 => ?_⟩⟩
        have w6 := web0 (n := 40) nv6
        have q6 := ke0 (n := 40) ne6 nv6
        generalize upd (upd HA e6 _) v6 _ = J6 at *
        refine ⟨.ref v6, 40, [], rfl, w6, by decide, by decide, fun _ Hc vc kc Wc => ?_, fun h => absurd h (by decide)⟩
        refine ⟨by show 0 ≤ sizeLine; decide, fun e7 ne7 => ⟨by show 2 ≤ sizeLine; decide, fun v7 nv7 => ?_⟩⟩
        have w7 := web0 (n := 40) nv7
        have q7 := ke0 (n := 40) ne7 nv7
        generalize upd (upd Hc e7 _) v7 _ = J7 at *
        have Wc : Web Hc vc 40 [] := Wc
        refine ⟨_, _, (Wc.ke q7).dp, w7.dp, (dWeb_sh _ _).shaped, (dWeb_sh _ _).shaped, ?_⟩
        rw [eqv_sh (dWeb_sh _ _).shaped]
        exact q _ (kall.ke (kA.trans (q6.trans (kc.trans q7))))
theorem ok_law {P : Program} {w : World} {K : PySem.W.Frag} {mg : Str → Option Value} {base : Heap} {tb : List Addr} {f : Addr} {fd : FuncData} {f_pieces_of : Addr} {fd_pieces_of : FuncData} {f__law_deck : Addr} {fd__law_deck : FuncData} {f__law_web : Addr} {fd__law_web : FuncData} {f__law_pieces : Addr} {fd__law_pieces : FuncData} {f__law_told : Addr} {fd__law_told : FuncData} {f__law_told_twice : Addr} {fd__law_told_twice : FuncData} {f__law_copies_hold : Addr} {fd__law_copies_hold : FuncData} {f__law_beside : Addr} {fd__law_beside : FuncData} {f__law_doubled : Addr} {fd__law_doubled : FuncData} {f__law_great : Addr} {fd__law_great : FuncData} (T : Blt mg) (D_law : DefAt K mg "law" s_law ["_law_script"] f fd) (XC : Xcs xfs K mg) (D_pieces_of : DefAt K mg "pieces_of" s_pieces_of ["web"] f_pieces_of fd_pieces_of) (G_pieces_of : FnOk P w K mg base CX0 7 f_pieces_of fd_pieces_of ["web"] (sp_pieces_of K tb)) (D__law_deck : DefAt K mg "_law_deck" s_law_deck ["_law_script", "_law_many"] f__law_deck fd__law_deck) (G__law_deck : FnOk P w K mg base CX0 2 f__law_deck fd__law_deck ["_law_script", "_law_many"] (sp__law_deck K tb)) (D__law_web : DefAt K mg "_law_web" s_law_web ["_law_deck_here", "_law_points", "_law_most"] f__law_web fd__law_web) (G__law_web : FnOk P w K mg base CX0 4 f__law_web fd__law_web ["_law_deck_here", "_law_points", "_law_most"] (sp__law_web K tb)) (D__law_pieces : DefAt K mg "_law_pieces" s_law_pieces ["_law_points", "_law_ties"] f__law_pieces fd__law_pieces) (G__law_pieces : FnOk P w K mg base CX0 2 f__law_pieces fd__law_pieces ["_law_points", "_law_ties"] (sp__law_pieces K tb)) (D__law_told : DefAt K mg "_law_told" s_law_told ["_law_one", "_law_other"] f__law_told fd__law_told) (G__law_told : FnOk P w K mg base CX0 8 f__law_told fd__law_told ["_law_one", "_law_other"] (sp__law_told K tb)) (D__law_told_twice : DefAt K mg "_law_told_twice" s_law_told_twice ["_law_web_here"] f__law_told_twice fd__law_told_twice) (G__law_told_twice : FnOk P w K mg base CX0 4 f__law_told_twice fd__law_told_twice ["_law_web_here"] (sp__law_told_twice K tb)) (D__law_copies_hold : DefAt K mg "_law_copies_hold" s_law_copies_hold ["_law_deck_here", "_law_web_here"] f__law_copies_hold fd__law_copies_hold) (G__law_copies_hold : FnOk P w K mg base CX0 4 f__law_copies_hold fd__law_copies_hold ["_law_deck_here", "_law_web_here"] (sp__law_copies_hold K tb)) (D__law_beside : DefAt K mg "_law_beside" s_law_beside ["_law_one", "_law_other"] f__law_beside fd__law_beside) (G__law_beside : FnOk P w K mg base CX0 1 f__law_beside fd__law_beside ["_law_one", "_law_other"] (sp__law_beside K tb)) (D__law_doubled : DefAt K mg "_law_doubled" s_law_doubled ["_law_web_here"] f__law_doubled fd__law_doubled) (G__law_doubled : FnOk P w K mg base CX0 1 f__law_doubled fd__law_doubled ["_law_web_here"] (sp__law_doubled K tb)) (D__law_great : DefAt K mg "_law_great" s_law_great ["_law_deck_here"] f__law_great fd__law_great) (G__law_great : FnOk P w K mg base CX0 9 f__law_great fd__law_great ["_law_deck_here"] (sp__law_great K tb)) :
    FnOkG P w K mg base CX0 10 f fd ["_law_script"] (sp_law K tb) := by
  refine D_law.okG sc_law (fun vs H Q E h => by
    obtain ⟨a, ns, rfl, hS, hlen, hTb, q⟩ := h
    all_goals rfl) fun A outer s H vs Q E hgd hr h => ?_
  obtain ⟨a, ns, rfl, hS, hlen, hTb, q⟩ := h
  refine ⟨_, pss_cons (ps_set (i := 1) sc_law.nd rfl (.inl rfl) (pe_call G__law_deck (hr.mono (by decide)) (by rfl) D__law_deck.g D__law_deck.F.kp D__law_deck.b .nil pass0 (pa_cons (pv 0) (pa_cons (pe_int) pa_nil))))
     (pss_cons (ps_set (i := 2) sc_law.nd rfl (.inr rfl) (pe_call G__law_web (hr.mono (by decide)) (by rfl) D__law_web.g D__law_web.F.kp D__law_web.b .nil pass0 (pa_cons (pv 1) (pa_cons (pe_int) (pa_cons (pe_int) pa_nil)))))
     (pss_cons (ps_set (i := 3) sc_law.nd rfl (.inl rfl) (pe_call G__law_web (hr.mono (by decide)) (by rfl) D__law_web.g D__law_web.F.kp D__law_web.b .nil pass0 (pa_cons (pv 1) (pa_cons (pe_int) (pa_cons (pe_int) pa_nil)))))
     (pss_cons (ps_set (i := 4) sc_law.nd rfl (.inl rfl) (pe_callTy (cr_strD (K := K) hgd hr.units) (by rfl) T.b_str (by decide +kernel) (pa_cons (pe_lst (pa_cons (pv 2) (pa_cons (pv 3) pa_nil))) pa_nil)))
     (pss_cons (ps_set (i := 5) sc_law.nd rfl (.inl rfl) (pe_call G__law_told (hr.mono (by decide)) (by rfl) D__law_told.g D__law_told.F.kp D__law_told.b .nil pass0 (pa_cons (pv 2) (pa_cons (pv 3) pa_nil))))
     (pss_cons (ps_if (PW.pt (pw_or (pt_cmpR (neDK (K := K) hr.units) (pv 5) (pe_call G__law_beside (hr.mono (by decide)) (by rfl) D__law_beside.g D__law_beside.F.kp D__law_beside.b .nil pass0 (pa_cons (pv 2) (pa_cons (pv 3) pa_nil))) (nomark _)) (pw_or1 (pt_cmpR (neDK (K := K) hr.units) (pe_call G__law_told (hr.mono (by decide)) (by rfl) D__law_told.g D__law_told.F.kp D__law_told.b .nil pass0 (pa_cons (pv 2) (pa_cons (pv 3) pa_nil))) (pv 5) (nomark _)))))
     (pss_one (ps_ret (pe_bl)))
     (pss_nil))
     (pss_cons (ps_setLc (i := 8) (own := [("_law_piece", 6)]) rfl sc_law.nd rfl rfl (sw_true rfl rfl rfl (by decide +kernel)) (pi_tup (pe_call G__law_pieces (hr.mono (by decide)) (by rfl) D__law_pieces.g D__law_pieces.F.kp D__law_pieces.b .nil pass0 (pa_cons (pe_ix (ix_tupK (K := K)) (pv 3) (pe_int) (fun _ _ => rfl)) (pa_cons (pe_ix (ix_tupK (K := K)) (pv 3) (pe_int) (fun _ _ => rfl)) pa_nil)))) (blkOk_by (own := [("_law_piece", 6)]) (N := nm_law) (sc := defScope s_law) (by decide +kernel)) (fun _ _ _ _ _ => pg_name (i := 6) sc_law.nd rfl (.inl rfl)) (fun _ _ _ _ _ => pts_nil) (fun _ _ _ _ _ => pe_callTy (tupleK (K := K)) (by rfl) T.b_tuple (by decide +kernel) (pa_cons (pe_lc (own := [("_law_j", 7)]) rfl sc_law.nd ((pi_tupK (K := K)) (pv 6)) (blkOk_by (own := [("_law_j", 7)]) (N := nm_law) (sc := relS csc_law_8_23 (defScope s_law)) (by decide +kernel)) (fun _ _ _ _ _ => pg_name (i := 7) sc_law.nd rfl (.inl rfl)) (fun _ _ _ _ _ => pts_nil) (fun _ _ _ _ _ => pe_op op_add (pe_ix (ix_tupK (K := K)) (pv 2) (pe_int) (fun _ _ => rfl)) (pv 7))) pa_nil)))
     (pss_cons (ps_if (pt_cmpR (neDK (K := K) hr.units) (pe_call G_pieces_of (hr.mono (by decide)) (by rfl) D_pieces_of.g D_pieces_of.F.kp D_pieces_of.b .nil pass0 (pa_cons (pv 5) pa_nil)) (pe_op (catU (K := K)) (pe_call G__law_pieces (hr.mono (by decide)) (by rfl) D__law_pieces.g D__law_pieces.F.kp D__law_pieces.b .nil pass0 (pa_cons (pe_ix (ix_tupK (K := K)) (pv 2) (pe_int) (fun _ _ => rfl)) (pa_cons (pe_ix (ix_tupK (K := K)) (pv 2) (pe_int) (fun _ _ => rfl)) pa_nil))) (pe_callTy (tupleK (K := K)) (by rfl) T.b_tuple (by decide +kernel) (pa_cons (pv 8) pa_nil))) (nomark _))
     (pss_one (ps_ret (pe_bl)))
     (pss_nil))
     (pss_cons (ps_if (PW.pt (pw_or (pt_cmpR (neDK (K := K) hr.units) (pe_call G__law_told_twice (hr.mono (by decide)) (by rfl) D__law_told_twice.g D__law_told_twice.F.kp D__law_told_twice.b .nil pass0 (pa_cons (pv 2) pa_nil)) (pe_call G__law_doubled (hr.mono (by decide)) (by rfl) D__law_doubled.g D__law_doubled.F.kp D__law_doubled.b .nil pass0 (pa_cons (pv 2) pa_nil)) (nomark _)) (pw_or1 (pt_not (pt_val (pe_call G__law_copies_hold (hr.mono (by decide)) (by rfl) D__law_copies_hold.g D__law_copies_hold.F.kp D__law_copies_hold.b .nil pass0 (pa_cons (pv 1) (pa_cons (pv 3) pa_nil))))))))
     (pss_one (ps_ret (pe_bl)))
     (pss_nil))
     (pss_cons (ps_if (PW.pt (pw_or (pt_not (pt_val (pe_call G__law_copies_hold (hr.mono (by decide)) (by rfl) D__law_copies_hold.g D__law_copies_hold.F.kp D__law_copies_hold.b .nil pass0 (pa_cons (pv 1) (pa_cons (pe_tup (pa_cons (pe_int) (pa_cons (pe_tup (pa_cons (pe_tup (pa_cons (pe_int) (pa_cons (pe_int) pa_nil))) pa_nil)) pa_nil))) pa_nil))))) (pw_or1 (pt_cmpR op_ne (pe_callTy (cr_strD (K := K) hgd hr.units) (by rfl) T.b_str (by decide +kernel) (pa_cons (pe_lst (pa_cons (pv 2) (pa_cons (pv 3) pa_nil))) pa_nil)) (pv 4) (nomark _)))))
     (pss_one (ps_ret (pe_bl)))
     (pss_nil))
     (pss_one (ps_ret (pe_call G__law_great (hr.mono (by decide)) (by rfl) D__law_great.g D__law_great.F.kp D__law_great.b .nil pass0 (pa_cons (pv 1) pa_nil))))))))))))), ?_⟩
  have LB := line_big
  refine ⟨_, rfl, a, ns, 500, rfl, hS, hlen, by decide, by decide, fun p G0 np k0 hd => ?_⟩
  have hT0 : Tabs tb G0 := hTb.kx k0
  refine ⟨_, rfl, p, 6, 12, rfl, hd, by decide, by decide, by decide, by decide, fun G1 v1 n1 ts k1 W1 hn1 hn1' hm1 ok1 => ?_⟩
  have d1 := k1.d
  refine ⟨_, rfl, p, 6, 12, rfl, d1, by decide, by decide, by decide, by decide, fun G2 v2 n2 us k2 W2 hn2 hn2' hm2 ok2 => ?_⟩
  have d2 := k2.d
  have W1 := W1.dk k2 d1
  obtain ⟨n1, rfl⟩ := Int.eq_ofNat_of_zero_le (show 0 ≤ n1 by omega)
  obtain ⟨n2, rfl⟩ := Int.eq_ofNat_of_zero_le (show 0 ≤ n2 by omega)
  have hT2 := hT0.dk (k1.trans k2)
  have shw : ShS 4 (3 * ts.length + 3 * us.length + 8) (.list [dWeb (n1 : Int) ts, dWeb (n2 : Int) us]) := by
    have := (ShA.cons (shS_web (n := (n1 : Int)) (by omega) (by omega) ok1) (ShA.cons (shS_web (n := (n2 : Int)) (by omega) (by omega) ok2) (shA_nil (e := 3)))).lst
    exact this.up (Nat.le_refl _) (by omega)
  obtain ⟨t1, u1, rs1, rfl, ht1, hu1, hTs1⟩ := id W1
  obtain ⟨t2, u2, rs2, rfl, ht2, hu2, hTs2⟩ := id W2
  refine ⟨_, rfl, _, rfl, by show 2 ≤ sizeLine; decide, fun s ns0 => ?_⟩
  have ks := Ke.new (S := fun _ => False) (o := .lst [.ref t1, .ref t2]) ns0
  have gs : (upd G2 s (.lst [.ref t1, .ref t2])) s = some (.lst [.ref t1, .ref t2]) := upd_same
  refine ⟨s, _, rfl, .lst (sqL_of gs) (.cons (W1.ke ks).dp (.cons (W2.ke ks).dp .nil)), shw.sh, shw.hd, by have := shw.dp; omega, shw.fits (by omega), ?_⟩
  generalize upd G2 s _ = G3 at *
  refine ⟨_, rfl, _, rfl, .ref t1, .ref t2, (n1 : Int), (n2 : Int), ts, us, rfl, W1.ke ks, W2.ke ks, by omega, by omega, by omega, by omega, ok1, ok2, hT2.kx ks, fun _ G4 v4 k4 W4 => ?_, fun h => by omega⟩
  have k24 := ks.trans k4
  refine ⟨_, rfl, _, rfl, _, rfl, .ref t1, .ref t2, (n1 : Int), (n2 : Int), ts, us, rfl, W1.ke k24, W2.ke k24, by omega, by omega, by omega, by omega, fun _ G5 v5 k5 W5 => ?_, fun h => by omega⟩
  refine ⟨_, _, (W4.ke k5).dp, W5.dp, (dWeb_sh _ _).shaped, (dWeb_sh _ _).shaped, ?_⟩
  rw [eqv_sh (dWeb_sh _ _).shaped]
  refine ⟨_, rfl, (if_neg Bool.false_ne_true).mpr ?_⟩
  have k25 := k24.trans k5
  refine ⟨_, rfl, _, rfl, .ref t1, .ref t2, (n1 : Int), (n2 : Int), ts, us, rfl, W1.ke k25, W2.ke k25, by omega, by omega, by omega, by omega, ok1, ok2, hT2.kx k25, fun _ G6 v6 k6 W6 => ?_, fun h => by omega⟩
  have W46 := (W4.ke k5).ke k6
  refine ⟨_, rfl, _, _, W6.dp, W46.dp, (dWeb_sh _ _).shaped, (dWeb_sh _ _).shaped, ?_⟩
  rw [eqv_sh (dWeb_sh _ _).shaped]
  refine ⟨_, rfl, iteF ?_⟩
  have k26 := k25.trans k6
  have ht1' := Ke.tup k26 ht1
  have ht2' := Ke.tup k26 ht2
  have hu1' := Ke.tup k26 hu1
  have hu2' := Ke.tup k26 hu2
  refine ⟨_, rfl, t2, _, 0, _, rfl, rfl, sqT_of ht2', atI_nat (j := 0) rfl, _, rfl, t2, _, 1, _, rfl, rfl, sqT_of ht2', atI_nat (j := 1) rfl, (n2 : Int), u2, rs2, us, rfl, hu2', hTs2.ke k26, ok2, by omega, by omega, fun G7 c7 cs7 k7 nc7 hc7 hL7 => ?_⟩
  have k27 := k26.trans k7
  refine ⟨c7, rfl, ⟨_, sqT_of hc7⟩, fun D nD => ?_⟩
  obtain ⟨P2, eP2⟩ : ∃ P2, P2 = piecesF (foldR (fun x => x) us) (n2 : Int) := ⟨_, rfl⟩
  rw [← eP2] at hL7
  have hP2l : P2.length ≤ n2 := by have := pieces_len (g := foldR (fun x => x) us) (n := (n2 : Int)); rw [← eP2] at this; omega
  have hP2b : ∀ l ∈ P2, l.length ≤ n2 := fun l hl => by
    rw [eP2] at hl
    unfold piecesF at hl
    obtain ⟨x, _, rfl⟩ := List.mem_map.mp hl
    have := List.length_filter_le (fun y => decide (foldR (fun x => x) us y = foldR (fun x => x) us x)) (upTo (n2 : Int))
    rw [upTo_length] at this
    unfold piece
    omega
  have hcl := hL7.length
  refine lc_tup (K := K) (a := c7) (xs := cs7) (fun i G => ∃ xs, Ke G7 G ∧ G D = some (.lst xs) ∧ Lots G xs ((P2.take i).map fun l => l.map fun x => (n1 : Int) + x)) ⟨[], Ke.new nD, upd_same, .nil⟩ (fun i G _ hG => ?_) (fun i x G hx hG => ?_) (fun G8 hG => ?_)
  · obtain ⟨_, kG, _⟩ := hG
    exact sqT_of (Ke.tup kG hc7)
  · obtain ⟨xs, kG, gD, hX⟩ := hG
    obtain ⟨ls, q7, hls, rfl, hq⟩ := hL7.get hx
    have hqG := Ke.tup kG hq
    have htG := Ke.tup (k7.trans kG) ht1'
    have hlb := hP2b ls (List.mem_of_getElem? hls)
    have il := (List.getElem?_eq_some_iff.mp hls).1
    have hxl := hX.length
    rw [List.length_map, List.length_take] at hxl
    refine ⟨rfl, yes_ite ?_⟩
    refine ⟨_, rfl, q7, rfl, ⟨_, sqT_of hqG⟩, fun D2 nD2 => ?_⟩
    refine lc_tup (K := K) (a := q7) (xs := ls.map V.int) (fun j G' => Ke G G' ∧ G' D2 = some (.lst (((ls.take j).map fun x => (n1 : Int) + x).map V.int))) ⟨Ke.new nD2, upd_same⟩ (fun j G' _ hG' => sqT_of (Ke.tup hG'.1 hqG)) (fun j x G' hx' hG' => ?_) (fun G' hG' => ?_)
    · obtain ⟨kG', gD2⟩ := hG'
      obtain ⟨y, hy, rfl⟩ := int_at hx'
      have jl := (List.getElem?_eq_some_iff.mp hy).1
      refine ⟨rfl, yes_ite ?_⟩
      refine ⟨_, rfl, t1, _, 0, _, rfl, rfl, sqT_of (Ke.tup kG' htG), atI_nat (j := 0) rfl, _, rfl, _, _, rfl, rfl, ?_⟩
      refine ⟨_, gD2, by rw [List.length_map, List.length_map, List.length_take]; omega, kG'.over nD2, ?_⟩
      rw [upd_same, take_next hy, List.map_append, List.map_append]
      rfl
    · obtain ⟨kG', gD2⟩ := hG'
      rw [List.length_map, List.take_length] at gD2
      refine ⟨D2, _, rfl, .inl ⟨sqL_of gD2, fun l nl => ?_⟩⟩
      have kl := kG'.trans (Ke.new (S := fun _ => False) (o := .tup ((ls.map fun x => (n1 : Int) + x).map V.int)) nl)
      refine ⟨xs, Ke.lst kl gD, by omega, _, (kG.trans kl).over nD, upd_same, ?_⟩
      rw [take_next hls, List.map_append]
      exact ((hX.ke kl).append (Lots.one upd_same)).put (Ke.lst kl gD)
  obtain ⟨xs8, k8, gD, hX⟩ := hG
  rw [hcl, List.take_length] at hX
  have k28 := k27.trans k8
  have okB : TOk ((n1 : Int) + n2) (ts ++ ledT (n1 : Int) us) := fun t ht => by
    rcases List.mem_append.mp ht with ht | ht
    · have := ok1 t ht
      omega
    · obtain ⟨w, hw, rfl⟩ := List.mem_map.mp ht
      have := ok2 w hw
      dsimp only
      omega
  have eB : (ts ++ ledT (n1 : Int) us).length = ts.length + us.length := by rw [List.length_append]; unfold ledT; rw [List.length_map]
  have k48 := (k5.trans k6).trans (k7.trans k8)
  refine ⟨_, rfl, v4, (n1 : Int) + n2, _, rfl, W4.ke k48, okB, by omega, by omega, by omega, hT2.kx k28, fun G9 u9 rs9 k9 nu9 hu9 hL9 => ?_⟩
  have hPB := pieces_beside ok1 ok2
  rw [← eP2] at hPB
  have hL9 : Lots G9 rs9 (piecesF (foldR (fun x => x) ts) (n1 : Int) ++ P2.map fun l => l.map fun x => (n1 : Int) + x) := by rw [← hPB]; exact hL9
  have k29 := k28.trans k9
  have ht19 := Ke.tup k29 ht1
  refine ⟨_, rfl, t1, _, 0, _, rfl, rfl, sqT_of ht19, atI_nat (j := 0) rfl, _, rfl, t1, _, 1, _, rfl, rfl, sqT_of ht19, atI_nat (j := 1) rfl, (n1 : Int), u1, rs1, ts, rfl, Ke.tup k29 hu1, hTs1.ke k29, ok1, by omega, by omega, fun GA cA csA kA ncA hcA hLA => ?_⟩
  have gDA := Ke.lst (k9.trans kA) gD
  have hXA := hX.ke (k9.trans kA)
  refine ⟨_, rfl, D, _, rfl, .inl ⟨sqL_of gDA, fun e ne => ?_⟩⟩
  have ke := Ke.new (S := fun _ => False) (o := .tup xs8) ne
  have hPl1 := pieces_len (g := foldR (fun x => x) ts) (n := (n1 : Int))
  have hl1 := hLA.length
  have hl2 := hXA.length
  rw [List.length_map] at hl2
  refine ⟨cA, e, csA, xs8, rfl, rfl, Ke.tup ke hcA, upd_same, by omega, fun y GB kB hy => ?_⟩
  have kAB := kA.trans (ke.trans kB)
  refine ⟨_, _, .tup (sqT_of (Ke.tup kAB hu9)) (hL9.ke kAB).dp, .tup (sqT_of hy) ((hLA.append hXA).ke (ke.trans kB)).dp, shaped_lots _, shaped_lots _, ?_⟩
  rw [eqv_lots]
  refine ⟨_, rfl, iteF ?_⟩
  have k2B := k29.trans kAB
  refine ⟨_, rfl, .ref t1, (n1 : Int), ts, rfl, W1.ke k2B, by omega, by omega, fun _ GC vC kC WC => ?_, fun h => by omega⟩
  refine ⟨_, rfl, .ref t1, (n1 : Int), ts, rfl, W1.ke (k2B.trans kC), by omega, by omega, fun _ GD vD kD WD => ?_, fun h => by omega⟩
  refine ⟨_, _, (WC.ke kD).dp, WD.dp, (dWeb_sh _ _).shaped, (dWeb_sh _ _).shaped, ?_⟩
  rw [eqv_sh (dWeb_sh _ _).shaped]
  refine ⟨_, rfl, (if_neg Bool.false_ne_true).mpr ?_⟩
  have k2D := k2B.trans (kC.trans kD)
  have dkD := (Dk.refl d2).ke k2D
  refine ⟨_, rfl, _, rfl, p, .ref t2, (n2 : Int), us, rfl, dkD.d, W2.ke k2D, by omega, by omega, by omega, fun GE kE => ?_⟩
  refine ⟨_, rfl, iteF ?_⟩
  have dkE := dkD.trans kE
  refine ⟨_, rfl, by show 2 ≤ sizeLine; decide, fun e1 ne1 => ⟨by show 1 ≤ sizeLine; decide, fun e2 ne2 => ⟨by show 2 ≤ sizeLine; decide, fun e3 ne3 => ?_⟩⟩⟩
  have dk3 := ((dkE.new ne1 (o := .tup [.int 0, .int 1])).new ne2 (o := .tup [.ref e1])).new ne3 (o := .tup [.int 2, .ref e2])
  have We : Web (upd (upd (upd GE e1 (.tup [.int 0, .int 1])) e2 (.tup [.ref e1])) e3 (.tup [.int 2, .ref e2])) (.ref e3) 2 [(0, 1)] := ⟨e3, e2, [.ref e1], rfl, upd_same, tup_new ne3 upd_same, Ties.one (tup_new ne3 (tup_new ne2 upd_same))⟩
  refine ⟨p, .ref e3, 2, [(0, 1)], rfl, dk3.d, We, by decide, by decide, by decide, fun GF kF => ?_⟩
  have dkF := dk3.trans kF
  refine ⟨_, rfl, (if_neg Bool.false_ne_true).mpr ?_⟩
  have W1F := W1.dk dkF d2
  have W2F := W2.dk dkF d2
  refine ⟨_, rfl, _, rfl, by show 2 ≤ sizeLine; decide, fun s2 ns2 => ?_⟩
  have ks2 := Ke.new (S := fun _ => False) (o := .lst [.ref t1, .ref t2]) ns2
  refine ⟨s2, _, rfl, .lst (sqL_of upd_same) (.cons (W1F.ke ks2).dp (.cons (W2F.ke ks2).dp .nil)), shw.sh, shw.hd, by have := shw.dp; omega, shw.fits (by omega), ?_⟩
  refine ⟨_, rfl, rfl, _, rfl, ?_⟩
  rw [decide_eq_true rfl]
  refine iteF ?_
  have dkG := dkF.ke ks2
  exact ⟨_, rfl, p, rfl, dkG.d, hT2.dk dkG, fun GH kH => q _⟩
end FF
namespace FF
open PySem PySem.Spec PyProof.Rows L2
def exK (K : PySem.W.Frag) : Bool := (xfs.all fun f => f.ok K)
/-! ### the head -/
def d_leader_of : He.DefD := ⟨("leader_of", none), "leader_of", "leader_of", defArgs s_leader_of, defBody s_leader_of, defScope s_leader_of, [], []⟩
def d_join_points : He.DefD := ⟨("join_points", none), "join_points", "join_points", defArgs s_join_points, defBody s_join_points, defScope s_join_points, [], []⟩
def d_pieces_of : He.DefD := ⟨("pieces_of", none), "pieces_of", "pieces_of", defArgs s_pieces_of, defBody s_pieces_of, defScope s_pieces_of, [], []⟩
def d_webs_beside : He.DefD := ⟨("webs_beside", none), "webs_beside", "webs_beside", defArgs s_webs_beside, defBody s_webs_beside, defScope s_webs_beside, [], []⟩
def d_doubled_web : He.DefD := ⟨("doubled_web", none), "doubled_web", "doubled_web", defArgs s_doubled_web, defBody s_doubled_web, defScope s_doubled_web, [], []⟩
def d_copies_of : He.DefD := ⟨("copies_of", none), "copies_of", "copies_of", defArgs s_copies_of, defBody s_copies_of, defScope s_copies_of, [], []⟩
def d_bounded_web : He.DefD := ⟨("bounded_web", none), "bounded_web", "bounded_web", defArgs s_bounded_web, defBody s_bounded_web, defScope s_bounded_web, [], []⟩
def d_law_mixed : He.DefD := ⟨("_law_mixed", none), "_law_mixed", "_law_mixed", defArgs s_law_mixed, defBody s_law_mixed, defScope s_law_mixed, [], []⟩
def d_law_deck : He.DefD := ⟨("_law_deck", none), "_law_deck", "_law_deck", defArgs s_law_deck, defBody s_law_deck, defScope s_law_deck, [], []⟩
def d_law_next : He.DefD := ⟨("_law_next", none), "_law_next", "_law_next", defArgs s_law_next, defBody s_law_next, defScope s_law_next, [], []⟩
def d_law_tie : He.DefD := ⟨("_law_tie", none), "_law_tie", "_law_tie", defArgs s_law_tie, defBody s_law_tie, defScope s_law_tie, [], []⟩
def d_law_any_web : He.DefD := ⟨("_law_any_web", none), "_law_any_web", "_law_any_web", defArgs s_law_any_web, defBody s_law_any_web, defScope s_law_any_web, [], []⟩
def d_law_round : He.DefD := ⟨("_law_round", none), "_law_round", "_law_round", defArgs s_law_round, defBody s_law_round, defScope s_law_round, [], []⟩
def d_law_full : He.DefD := ⟨("_law_full", none), "_law_full", "_law_full", defArgs s_law_full, defBody s_law_full, defScope s_law_full, [], []⟩
def d_law_tree : He.DefD := ⟨("_law_tree", none), "_law_tree", "_law_tree", defArgs s_law_tree, defBody s_law_tree, defScope s_law_tree, [], []⟩
def d_law_web : He.DefD := ⟨("_law_web", none), "_law_web", "_law_web", defArgs s_law_web, defBody s_law_web, defScope s_law_web, [], []⟩
def d_law_heads : He.DefD := ⟨("_law_heads", none), "_law_heads", "_law_heads", defArgs s_law_heads, defBody s_law_heads, defScope s_law_heads, [], []⟩
def d_law_pieces : He.DefD := ⟨("_law_pieces", none), "_law_pieces", "_law_pieces", defArgs s_law_pieces, defBody s_law_pieces, defScope s_law_pieces, [], []⟩
def d_law_refused_with : He.DefD := ⟨("_law_refused_with", none), "_law_refused_with", "_law_refused_with", defArgs s_law_refused_with, defBody s_law_refused_with, defScope s_law_refused_with, [], []⟩
def d_law_told : He.DefD := ⟨("_law_told", none), "_law_told", "_law_told", defArgs s_law_told, defBody s_law_told, defScope s_law_told, [], []⟩
def d_law_told_twice : He.DefD := ⟨("_law_told_twice", none), "_law_told_twice", "_law_told_twice", defArgs s_law_told_twice, defBody s_law_told_twice, defScope s_law_told_twice, [], []⟩
def d_law_told_often : He.DefD := ⟨("_law_told_often", none), "_law_told_often", "_law_told_often", defArgs s_law_told_often, defBody s_law_told_often, defScope s_law_told_often, [], []⟩
def d_law_copies_hold : He.DefD := ⟨("_law_copies_hold", none), "_law_copies_hold", "_law_copies_hold", defArgs s_law_copies_hold, defBody s_law_copies_hold, defScope s_law_copies_hold, [], []⟩
def d_law_beside : He.DefD := ⟨("_law_beside", none), "_law_beside", "_law_beside", defArgs s_law_beside, defBody s_law_beside, defScope s_law_beside, [], []⟩
def d_law_doubled : He.DefD := ⟨("_law_doubled", none), "_law_doubled", "_law_doubled", defArgs s_law_doubled, defBody s_law_doubled, defScope s_law_doubled, [], []⟩
def d_law_great : He.DefD := ⟨("_law_great", none), "_law_great", "_law_great", defArgs s_law_great, defBody s_law_great, defScope s_law_great, [], []⟩
def d_law : He.DefD := ⟨("law", none), "law", "law", defArgs s_law, defBody s_law, defScope s_law, [], []⟩
def fn : List He.DefD := [d_leader_of, d_join_points, d_pieces_of, d_webs_beside, d_doubled_web, d_copies_of, d_bounded_web, d_law_mixed, d_law_deck, d_law_next, d_law_tie, d_law_any_web, d_law_round, d_law_full, d_law_tree, d_law_web, d_law_heads, d_law_pieces, d_law_refused_with, d_law_told, d_law_told_twice, d_law_told_often, d_law_copies_hold, d_law_beside, d_law_doubled, d_law_great, d_law]
def fa : List He.Fa := [.glo "leader_of", .glo "join_points", .glo "pieces_of", .glo "webs_beside", .glo "doubled_web", .glo "copies_of", .glo "bounded_web", .glo "_law_mixed", .glo "_law_deck", .glo "_law_next", .glo "_law_tie", .glo "_law_any_web", .glo "_law_round", .glo "_law_full", .glo "_law_tree", .glo "_law_web", .glo "_law_heads", .glo "_law_pieces", .glo "_law_refused_with", .glo "_law_told", .glo "_law_told_twice", .glo "_law_told_often", .glo "_law_copies_hold", .glo "_law_beside", .glo "_law_doubled", .glo "_law_great", .glo "law", .free "ValueError", .free "int", .free "isinstance", .free "len", .free "list", .free "max", .free "min", .free "range", .free "reversed", .free "set", .free "sorted", .free "str", .free "tuple", .int "MOST_POINTS" 40, .int "MOST_TIES" 120]
def tf : List He.Defn := [("pieces_of", none), ("webs_beside", none)]
abbrev R : PySem.W.OpenRow := PySem.W.OpenLaw.row PySem.Challenge.rw_fewforests_k75_beside_and_doubled
abbrev hk : PySem.W.Hook := He.hookX 4 fa fn [] tf exK
def ob (s : PySem.W.SharedT) : He.AlX := He.obsX 4 fa fn [] tf exK (HandSHeadRun.getT s)
theorem ob_eq (s : PySem.W.SharedT) : ob s = hk.obs s.abs := He.obsX_eq (HandSHeadRun.getT_eq s)
def loose : List PySem.Str := "leader_of" :: "join_points" :: "pieces_of" :: "webs_beside" :: "doubled_web" :: "copies_of" :: "bounded_web" :: "_law_mixed" :: "_law_deck" :: "_law_next" :: "_law_tie" :: "_law_any_web" :: "_law_round" :: "_law_full" :: "_law_tree" :: "_law_web" :: "_law_heads" :: "_law_pieces" :: "_law_refused_with" :: "_law_told" :: "_law_told_twice" :: "_law_told_often" :: "_law_copies_hold" :: "_law_beside" :: "_law_doubled" :: "_law_great" :: "MOST_POINTS" :: "MOST_TIES" :: "WebsError" :: "TooGreat" :: []
theorem run (w : World) : HandSHeadRun.RunEq R (PySem.W.view R.prog [35]) hk ob 3000 loose w := by
  intro os
  kernel_rfl
theorem lawAt {w : World} {K : PySem.W.Frag} {h : Heap} {mg : Str → Option Value} {f : Addr} (X : K.In h) (G : h.Ns mainGlobals mg) (hfa : mg ("law" : Str) = some (.ref f)) (c : He.SaysX fa fn [] tf exK w h K) :
    LawAtG PySem.Challenge.rw_fewforests_k75_beside_and_doubled w K 10 63 "_law_script" mg f h := by
  have cd : He.SaysD fa fn K := c.t.d
  letI LI : LT := ⟨fun _ => false⟩
  have XC : Xcs xfs K mg := Xcs.mk' X G c.more
  obtain ⟨fd_leader_of, F_leader_of⟩ := cd.def_ 0 (d := d_leader_of) rfl
  have g_leader_of := He.glo_ok X G (cd.fact 0 (f := .glo "leader_of") rfl)
  have D_leader_of : DefAt K mg "leader_of" s_leader_of ["leaders", "point"] _ fd_leader_of := ⟨F_leader_of, g_leader_of, FunD.bindsN F_leader_of fun _ _ _ _ _ _ us hl => match us, hl with | [_, _], _ => rfl⟩
  obtain ⟨fd_join_points, F_join_points⟩ := cd.def_ 1 (d := d_join_points) rfl
  have g_join_points := He.glo_ok X G (cd.fact 1 (f := .glo "join_points") rfl)
  have D_join_points : DefAt K mg "join_points" s_join_points ["leaders", "a", "b"] _ fd_join_points := ⟨F_join_points, g_join_points, FunD.bindsN F_join_points fun _ _ _ _ _ _ us hl => match us, hl with | [_, _, _], _ => rfl⟩
  obtain ⟨fd_pieces_of, F_pieces_of⟩ := cd.def_ 2 (d := d_pieces_of) rfl
  have g_pieces_of := He.glo_ok X G (cd.fact 2 (f := .glo "pieces_of") rfl)
  have D_pieces_of : DefAt K mg "pieces_of" s_pieces_of ["web"] _ fd_pieces_of := ⟨F_pieces_of, g_pieces_of, FunD.bindsN F_pieces_of fun _ _ _ _ _ _ us hl => match us, hl with | [_], _ => rfl⟩
  obtain ⟨fd_webs_beside, F_webs_beside⟩ := cd.def_ 3 (d := d_webs_beside) rfl
  have g_webs_beside := He.glo_ok X G (cd.fact 3 (f := .glo "webs_beside") rfl)
  have D_webs_beside : DefAt K mg "webs_beside" s_webs_beside ["one", "other"] _ fd_webs_beside := ⟨F_webs_beside, g_webs_beside, FunD.bindsN F_webs_beside fun _ _ _ _ _ _ us hl => match us, hl with | [_, _], _ => rfl⟩
  obtain ⟨fd_doubled_web, F_doubled_web⟩ := cd.def_ 4 (d := d_doubled_web) rfl
  have g_doubled_web := He.glo_ok X G (cd.fact 4 (f := .glo "doubled_web") rfl)
  have D_doubled_web : DefAt K mg "doubled_web" s_doubled_web ["web"] _ fd_doubled_web := ⟨F_doubled_web, g_doubled_web, FunD.bindsN F_doubled_web fun _ _ _ _ _ _ us hl => match us, hl with | [_], _ => rfl⟩
  obtain ⟨fd_copies_of, F_copies_of⟩ := cd.def_ 5 (d := d_copies_of) rfl
  have g_copies_of := He.glo_ok X G (cd.fact 5 (f := .glo "copies_of") rfl)
  have D_copies_of : DefAt K mg "copies_of" s_copies_of ["web", "c"] _ fd_copies_of := ⟨F_copies_of, g_copies_of, FunD.bindsN F_copies_of fun _ _ _ _ _ _ us hl => match us, hl with | [_, _], _ => rfl⟩
  obtain ⟨fd_bounded_web, F_bounded_web⟩ := cd.def_ 6 (d := d_bounded_web) rfl
  have g_bounded_web := He.glo_ok X G (cd.fact 6 (f := .glo "bounded_web") rfl)
  have D_bounded_web : DefAt K mg "bounded_web" s_bounded_web ["points", "ties"] _ fd_bounded_web := ⟨F_bounded_web, g_bounded_web, FunD.bindsN F_bounded_web fun _ _ _ _ _ _ us hl => match us, hl with | [_, _], _ => rfl⟩
  obtain ⟨fd__law_mixed, F__law_mixed⟩ := cd.def_ 7 (d := d_law_mixed) rfl
  have g__law_mixed := He.glo_ok X G (cd.fact 7 (f := .glo "_law_mixed") rfl)
  have D__law_mixed : DefAt K mg "_law_mixed" s_law_mixed ["_law_cell", "_law_k"] _ fd__law_mixed := ⟨F__law_mixed, g__law_mixed, FunD.bindsN F__law_mixed fun _ _ _ _ _ _ us hl => match us, hl with | [_, _], _ => rfl⟩
  obtain ⟨fd__law_deck, F__law_deck⟩ := cd.def_ 8 (d := d_law_deck) rfl
  have g__law_deck := He.glo_ok X G (cd.fact 8 (f := .glo "_law_deck") rfl)
  have D__law_deck : DefAt K mg "_law_deck" s_law_deck ["_law_script", "_law_many"] _ fd__law_deck := ⟨F__law_deck, g__law_deck, FunD.bindsN F__law_deck fun _ _ _ _ _ _ us hl => match us, hl with | [_, _], _ => rfl⟩
  obtain ⟨fd__law_next, F__law_next⟩ := cd.def_ 9 (d := d_law_next) rfl
  have g__law_next := He.glo_ok X G (cd.fact 9 (f := .glo "_law_next") rfl)
  have D__law_next : DefAt K mg "_law_next" s_law_next ["_law_deck_here"] _ fd__law_next := ⟨F__law_next, g__law_next, FunD.bindsN F__law_next fun _ _ _ _ _ _ us hl => match us, hl with | [_], _ => rfl⟩
  obtain ⟨fd__law_tie, F__law_tie⟩ := cd.def_ 10 (d := d_law_tie) rfl
  have g__law_tie := He.glo_ok X G (cd.fact 10 (f := .glo "_law_tie") rfl)
  have D__law_tie : DefAt K mg "_law_tie" s_law_tie ["_law_deck_here", "_law_points"] _ fd__law_tie := ⟨F__law_tie, g__law_tie, FunD.bindsN F__law_tie fun _ _ _ _ _ _ us hl => match us, hl with | [_, _], _ => rfl⟩
  obtain ⟨fd__law_any_web, F__law_any_web⟩ := cd.def_ 11 (d := d_law_any_web) rfl
  have g__law_any_web := He.glo_ok X G (cd.fact 11 (f := .glo "_law_any_web") rfl)
  have D__law_any_web : DefAt K mg "_law_any_web" s_law_any_web ["_law_deck_here", "_law_points", "_law_most"] _ fd__law_any_web := ⟨F__law_any_web, g__law_any_web, FunD.bindsN F__law_any_web fun _ _ _ _ _ _ us hl => match us, hl with | [_, _, _], _ => rfl⟩
  obtain ⟨fd__law_round, F__law_round⟩ := cd.def_ 12 (d := d_law_round) rfl
  have g__law_round := He.glo_ok X G (cd.fact 12 (f := .glo "_law_round") rfl)
  have D__law_round : DefAt K mg "_law_round" s_law_round ["_law_points"] _ fd__law_round := ⟨F__law_round, g__law_round, FunD.bindsN F__law_round fun _ _ _ _ _ _ us hl => match us, hl with | [_], _ => rfl⟩
  obtain ⟨fd__law_full, F__law_full⟩ := cd.def_ 13 (d := d_law_full) rfl
  have g__law_full := He.glo_ok X G (cd.fact 13 (f := .glo "_law_full") rfl)
  have D__law_full : DefAt K mg "_law_full" s_law_full ["_law_points"] _ fd__law_full := ⟨F__law_full, g__law_full, FunD.bindsN F__law_full fun _ _ _ _ _ _ us hl => match us, hl with | [_], _ => rfl⟩
  obtain ⟨fd__law_tree, F__law_tree⟩ := cd.def_ 14 (d := d_law_tree) rfl
  have g__law_tree := He.glo_ok X G (cd.fact 14 (f := .glo "_law_tree") rfl)
  have D__law_tree : DefAt K mg "_law_tree" s_law_tree ["_law_deck_here", "_law_points"] _ fd__law_tree := ⟨F__law_tree, g__law_tree, FunD.bindsN F__law_tree fun _ _ _ _ _ _ us hl => match us, hl with | [_, _], _ => rfl⟩
  obtain ⟨fd__law_web, F__law_web⟩ := cd.def_ 15 (d := d_law_web) rfl
  have g__law_web := He.glo_ok X G (cd.fact 15 (f := .glo "_law_web") rfl)
  have D__law_web : DefAt K mg "_law_web" s_law_web ["_law_deck_here", "_law_points", "_law_most"] _ fd__law_web := ⟨F__law_web, g__law_web, FunD.bindsN F__law_web fun _ _ _ _ _ _ us hl => match us, hl with | [_, _, _], _ => rfl⟩
  obtain ⟨fd__law_heads, F__law_heads⟩ := cd.def_ 16 (d := d_law_heads) rfl
  have g__law_heads := He.glo_ok X G (cd.fact 16 (f := .glo "_law_heads") rfl)
  have D__law_heads : DefAt K mg "_law_heads" s_law_heads ["_law_points", "_law_ties"] _ fd__law_heads := ⟨F__law_heads, g__law_heads, FunD.bindsN F__law_heads fun _ _ _ _ _ _ us hl => match us, hl with | [_, _], _ => rfl⟩
  obtain ⟨fd__law_pieces, F__law_pieces⟩ := cd.def_ 17 (d := d_law_pieces) rfl
  have g__law_pieces := He.glo_ok X G (cd.fact 17 (f := .glo "_law_pieces") rfl)
  have D__law_pieces : DefAt K mg "_law_pieces" s_law_pieces ["_law_points", "_law_ties"] _ fd__law_pieces := ⟨F__law_pieces, g__law_pieces, FunD.bindsN F__law_pieces fun _ _ _ _ _ _ us hl => match us, hl with | [_, _], _ => rfl⟩
  obtain ⟨fd__law_refused_with, F__law_refused_with⟩ := cd.def_ 18 (d := d_law_refused_with) rfl
  have g__law_refused_with := He.glo_ok X G (cd.fact 18 (f := .glo "_law_refused_with") rfl)
  have D__law_refused_with : DefAt K mg "_law_refused_with" s_law_refused_with ["_law_error"] _ fd__law_refused_with := ⟨F__law_refused_with, g__law_refused_with, FunD.bindsN F__law_refused_with fun _ _ _ _ _ _ us hl => match us, hl with | [_], _ => rfl⟩
  obtain ⟨fd__law_told, F__law_told⟩ := cd.def_ 19 (d := d_law_told) rfl
  have g__law_told := He.glo_ok X G (cd.fact 19 (f := .glo "_law_told") rfl)
  have D__law_told : DefAt K mg "_law_told" s_law_told ["_law_one", "_law_other"] _ fd__law_told := ⟨F__law_told, g__law_told, FunD.bindsN F__law_told fun _ _ _ _ _ _ us hl => match us, hl with | [_, _], _ => rfl⟩
  obtain ⟨fd__law_told_twice, F__law_told_twice⟩ := cd.def_ 20 (d := d_law_told_twice) rfl
  have g__law_told_twice := He.glo_ok X G (cd.fact 20 (f := .glo "_law_told_twice") rfl)
  have D__law_told_twice : DefAt K mg "_law_told_twice" s_law_told_twice ["_law_web_here"] _ fd__law_told_twice := ⟨F__law_told_twice, g__law_told_twice, FunD.bindsN F__law_told_twice fun _ _ _ _ _ _ us hl => match us, hl with | [_], _ => rfl⟩
  obtain ⟨fd__law_told_often, F__law_told_often⟩ := cd.def_ 21 (d := d_law_told_often) rfl
  have g__law_told_often := He.glo_ok X G (cd.fact 21 (f := .glo "_law_told_often") rfl)
  have D__law_told_often : DefAt K mg "_law_told_often" s_law_told_often ["_law_web_here", "_law_c"] _ fd__law_told_often := ⟨F__law_told_often, g__law_told_often, FunD.bindsN F__law_told_often fun _ _ _ _ _ _ us hl => match us, hl with | [_, _], _ => rfl⟩
  obtain ⟨fd__law_copies_hold, F__law_copies_hold⟩ := cd.def_ 22 (d := d_law_copies_hold) rfl
  have g__law_copies_hold := He.glo_ok X G (cd.fact 22 (f := .glo "_law_copies_hold") rfl)
  have D__law_copies_hold : DefAt K mg "_law_copies_hold" s_law_copies_hold ["_law_deck_here", "_law_web_here"] _ fd__law_copies_hold := ⟨F__law_copies_hold, g__law_copies_hold, FunD.bindsN F__law_copies_hold fun _ _ _ _ _ _ us hl => match us, hl with | [_, _], _ => rfl⟩
  obtain ⟨fd__law_beside, F__law_beside⟩ := cd.def_ 23 (d := d_law_beside) rfl
  have g__law_beside := He.glo_ok X G (cd.fact 23 (f := .glo "_law_beside") rfl)
  have D__law_beside : DefAt K mg "_law_beside" s_law_beside ["_law_one", "_law_other"] _ fd__law_beside := ⟨F__law_beside, g__law_beside, FunD.bindsN F__law_beside fun _ _ _ _ _ _ us hl => match us, hl with | [_, _], _ => rfl⟩
  obtain ⟨fd__law_doubled, F__law_doubled⟩ := cd.def_ 24 (d := d_law_doubled) rfl
  have g__law_doubled := He.glo_ok X G (cd.fact 24 (f := .glo "_law_doubled") rfl)
  have D__law_doubled : DefAt K mg "_law_doubled" s_law_doubled ["_law_web_here"] _ fd__law_doubled := ⟨F__law_doubled, g__law_doubled, FunD.bindsN F__law_doubled fun _ _ _ _ _ _ us hl => match us, hl with | [_], _ => rfl⟩
  obtain ⟨fd__law_great, F__law_great⟩ := cd.def_ 25 (d := d_law_great) rfl
  have g__law_great := He.glo_ok X G (cd.fact 25 (f := .glo "_law_great") rfl)
  have D__law_great : DefAt K mg "_law_great" s_law_great ["_law_deck_here"] _ fd__law_great := ⟨F__law_great, g__law_great, FunD.bindsN F__law_great fun _ _ _ _ _ _ us hl => match us, hl with | [_], _ => rfl⟩
  obtain ⟨fd_law, F_law⟩ := cd.def_ 26 (d := d_law) rfl
  have g_law := He.glo_ok X G (cd.fact 26 (f := .glo "law") rfl)
  have D_law : DefAt K mg "law" s_law ["_law_script"] _ fd_law := ⟨F_law, g_law, FunD.bindsN F_law fun _ _ _ _ _ _ us hl => match us, hl with | [_], _ => rfl⟩
  have T : Blt mg := ⟨He.free_ok X G (cd.fact 27 (f := .free "ValueError") rfl), He.free_ok X G (cd.fact 28 (f := .free "int") rfl), He.free_ok X G (cd.fact 29 (f := .free "isinstance") rfl), He.free_ok X G (cd.fact 30 (f := .free "len") rfl), He.free_ok X G (cd.fact 31 (f := .free "list") rfl), He.free_ok X G (cd.fact 32 (f := .free "max") rfl), He.free_ok X G (cd.fact 33 (f := .free "min") rfl), He.free_ok X G (cd.fact 34 (f := .free "range") rfl), He.free_ok X G (cd.fact 35 (f := .free "reversed") rfl), He.free_ok X G (cd.fact 36 (f := .free "set") rfl), He.free_ok X G (cd.fact 37 (f := .free "sorted") rfl), He.free_ok X G (cd.fact 38 (f := .free "str") rfl), He.free_ok X G (cd.fact 39 (f := .free "tuple") rfl), He.int_ok X G (cd.fact 40 (f := .int "MOST_POINTS" 40) rfl), He.int_ok X G (cd.fact 41 (f := .int "MOST_TIES" 120) rfl)⟩
  cases hfa.symm.trans g_law
  obtain ⟨cc_pieces_of, hcd_pieces_of⟩ := code_at F_pieces_of
  obtain ⟨cc_webs_beside, hcd_webs_beside⟩ := code_at F_webs_beside
  have bl := FunD.bindsA (ps := ["_law_script"]) F_law fun _ _ _ _ _ _ us hl => match us, hl with | [_], _ => rfl
  refine ⟨fd_law, tf.map (He.cT K), sp_law K (tf.map fun p => (He.cT K p).2), fun p hp => ?_, fun p hp => ?_, fun p hp => ?_, fun s v => bl s [v] rfl, fun H a ns hl hbits hH hS => ?_, fun base KB GB hTB => ?_⟩
  · obtain ⟨d, hd, rfl⟩ := List.mem_map.mp hp
    exact c.empty d hd
  · obtain ⟨d, hd, rfl⟩ := List.mem_map.mp hp
    exact c.out d hd
  · obtain ⟨d, hd, rfl⟩ := List.mem_map.mp hp
    exact PySem.W.codeHd_of_K X (c.hd d hd)
  · exact law_start hl hbits (fun P hP => by
      obtain ⟨d, hd, rfl⟩ := List.mem_map.mp hP
      exact ⟨#[], hH _ (List.mem_map.mpr ⟨d, hd, rfl⟩), trivial, rfl⟩) hS
  · have G_leader_of := ok_leader_of (P := PySem.Challenge.rw_fewforests_k75_beside_and_doubled.prog) (w := w) (base := base) (tb := tf.map fun p => (He.cT K p).2) T D_leader_of XC
    have G_join_points := ok_join_points (P := PySem.Challenge.rw_fewforests_k75_beside_and_doubled.prog) (w := w) (base := base) (tb := tf.map fun p => (He.cT K p).2) T D_join_points XC D_leader_of G_leader_of
    have G_pieces_of := ok_pieces_of (P := PySem.Challenge.rw_fewforests_k75_beside_and_doubled.prog) (w := w) (base := base) (tb := tf.map fun p => (He.cT K p).2) T D_pieces_of XC D_leader_of G_leader_of D_join_points G_join_points (hTB (He.cT K ("pieces_of", none)) (List.mem_map.mpr ⟨("pieces_of", none), by decide, rfl⟩)) (code_is F_pieces_of hcd_pieces_of) (List.mem_map.mpr ⟨("pieces_of", none), by decide, rfl⟩)
    have G_bounded_web := ok_bounded_web (P := PySem.Challenge.rw_fewforests_k75_beside_and_doubled.prog) (w := w) (base := base) (tb := tf.map fun p => (He.cT K p).2) T D_bounded_web XC
    have G_webs_beside := ok_webs_beside (P := PySem.Challenge.rw_fewforests_k75_beside_and_doubled.prog) (w := w) (base := base) (tb := tf.map fun p => (He.cT K p).2) T D_webs_beside XC D_bounded_web G_bounded_web (hTB (He.cT K ("webs_beside", none)) (List.mem_map.mpr ⟨("webs_beside", none), by decide, rfl⟩)) (code_is F_webs_beside hcd_webs_beside) (List.mem_map.mpr ⟨("webs_beside", none), by decide, rfl⟩)
    have G_copies_of := ok_copies_of (P := PySem.Challenge.rw_fewforests_k75_beside_and_doubled.prog) (w := w) (base := base) (tb := tf.map fun p => (He.cT K p).2) T D_copies_of XC D_bounded_web G_bounded_web
    have G_doubled_web := ok_doubled_web (P := PySem.Challenge.rw_fewforests_k75_beside_and_doubled.prog) (w := w) (base := base) (tb := tf.map fun p => (He.cT K p).2) T D_doubled_web XC D_copies_of G_copies_of
    have G__law_mixed := ok__law_mixed (P := PySem.Challenge.rw_fewforests_k75_beside_and_doubled.prog) (w := w) (base := base) (tb := tf.map fun p => (He.cT K p).2) T D__law_mixed XC
    have G__law_deck := ok__law_deck (P := PySem.Challenge.rw_fewforests_k75_beside_and_doubled.prog) (w := w) (base := base) (tb := tf.map fun p => (He.cT K p).2) T D__law_deck XC D__law_mixed G__law_mixed
    have G__law_next := ok__law_next (P := PySem.Challenge.rw_fewforests_k75_beside_and_doubled.prog) (w := w) (base := base) (tb := tf.map fun p => (He.cT K p).2) T D__law_next XC
    have G__law_tie := ok__law_tie (P := PySem.Challenge.rw_fewforests_k75_beside_and_doubled.prog) (w := w) (base := base) (tb := tf.map fun p => (He.cT K p).2) T D__law_tie XC D__law_next G__law_next
    have G__law_any_web := ok__law_any_web (P := PySem.Challenge.rw_fewforests_k75_beside_and_doubled.prog) (w := w) (base := base) (tb := tf.map fun p => (He.cT K p).2) T D__law_any_web XC D__law_next G__law_next D__law_tie G__law_tie
    have G__law_round := ok__law_round (P := PySem.Challenge.rw_fewforests_k75_beside_and_doubled.prog) (w := w) (base := base) (tb := tf.map fun p => (He.cT K p).2) T D__law_round XC
    have G__law_full := ok__law_full (P := PySem.Challenge.rw_fewforests_k75_beside_and_doubled.prog) (w := w) (base := base) (tb := tf.map fun p => (He.cT K p).2) T D__law_full XC
    have G__law_tree := ok__law_tree (P := PySem.Challenge.rw_fewforests_k75_beside_and_doubled.prog) (w := w) (base := base) (tb := tf.map fun p => (He.cT K p).2) T D__law_tree XC D__law_next G__law_next
    have G__law_web := ok__law_web (P := PySem.Challenge.rw_fewforests_k75_beside_and_doubled.prog) (w := w) (base := base) (tb := tf.map fun p => (He.cT K p).2) T D__law_web XC D__law_next G__law_next D__law_any_web G__law_any_web D__law_round G__law_round D__law_full G__law_full D__law_tree G__law_tree
    have G__law_heads := ok__law_heads (P := PySem.Challenge.rw_fewforests_k75_beside_and_doubled.prog) (w := w) (base := base) (tb := tf.map fun p => (He.cT K p).2) T D__law_heads XC
    have G__law_pieces := ok__law_pieces (P := PySem.Challenge.rw_fewforests_k75_beside_and_doubled.prog) (w := w) (base := base) (tb := tf.map fun p => (He.cT K p).2) T D__law_pieces XC D__law_heads G__law_heads
    have G__law_refused_with := ok__law_refused_with (P := PySem.Challenge.rw_fewforests_k75_beside_and_doubled.prog) (w := w) (base := base) (tb := tf.map fun p => (He.cT K p).2) T D__law_refused_with XC
    have G__law_told := ok__law_told (P := PySem.Challenge.rw_fewforests_k75_beside_and_doubled.prog) (w := w) (base := base) (tb := tf.map fun p => (He.cT K p).2) T D__law_told XC D_webs_beside G_webs_beside D__law_refused_with G__law_refused_with
    have G__law_told_twice := ok__law_told_twice (P := PySem.Challenge.rw_fewforests_k75_beside_and_doubled.prog) (w := w) (base := base) (tb := tf.map fun p => (He.cT K p).2) T D__law_told_twice XC D_doubled_web G_doubled_web D__law_refused_with G__law_refused_with
    have G__law_told_often := ok__law_told_often (P := PySem.Challenge.rw_fewforests_k75_beside_and_doubled.prog) (w := w) (base := base) (tb := tf.map fun p => (He.cT K p).2) T D__law_told_often XC D_copies_of G_copies_of D__law_refused_with G__law_refused_with
    have G__law_copies_hold := ok__law_copies_hold (P := PySem.Challenge.rw_fewforests_k75_beside_and_doubled.prog) (w := w) (base := base) (tb := tf.map fun p => (He.cT K p).2) T D__law_copies_hold XC D__law_next G__law_next D__law_told_often G__law_told_often
    have G__law_beside := ok__law_beside (P := PySem.Challenge.rw_fewforests_k75_beside_and_doubled.prog) (w := w) (base := base) (tb := tf.map fun p => (He.cT K p).2) T D__law_beside XC
    have G__law_doubled := ok__law_doubled (P := PySem.Challenge.rw_fewforests_k75_beside_and_doubled.prog) (w := w) (base := base) (tb := tf.map fun p => (He.cT K p).2) T D__law_doubled XC
    have G__law_great := ok__law_great (P := PySem.Challenge.rw_fewforests_k75_beside_and_doubled.prog) (w := w) (base := base) (tb := tf.map fun p => (He.cT K p).2) T D__law_great XC D__law_next G__law_next D__law_tie G__law_tie D__law_told G__law_told D__law_told_twice G__law_told_twice D__law_beside G__law_beside D__law_doubled G__law_doubled
    have G_law := ok_law (P := PySem.Challenge.rw_fewforests_k75_beside_and_doubled.prog) (w := w) (base := base) (tb := tf.map fun p => (He.cT K p).2) T D_law XC D_pieces_of G_pieces_of D__law_deck G__law_deck D__law_web G__law_web D__law_pieces G__law_pieces D__law_told G__law_told D__law_told_twice G__law_told_twice D__law_copies_hold G__law_copies_hold D__law_beside G__law_beside D__law_doubled G__law_doubled D__law_great G__law_great
    exact G_law
end FF
open PySem PySem.W PySem.Calls PyProof.Rows
theorem PySem.Challenge.cw_fewforests_k75_beside_and_doubled_holds : PySem.Challenge.rw_fewforests_k75_beside_and_doubled.Holds := by
  w_on; o_law
  refine HandSHeadRun.head_any (r := OpenLaw.row PySem.Challenge.rw_fewforests_k75_beside_and_doubled) (q := view (OpenLaw.row PySem.Challenge.rw_fewforests_k75_beside_and_doubled).prog [35]) (H := FF.hk) (ob := FF.ob) (M := 3000) (loose := FF.loose) (d := HandSHeadRun.topDef (OpenLaw.row PySem.Challenge.rw_fewforests_k75_beside_and_doubled).prog 35) (kwd := []) FF.ob_eq
    (by kernel_rfl) (fun s => by kernel_rfl) FF.run (by kernel_rfl) (by kernel_rfl) (by kernel_rfl) (by rfl) (by first | assumption | decide +kernel) (by decide +kernel) ⟨rfl, rfl, rfl, rfl, rfl, by decide +kernel⟩ ?hw ?hc
  case hw => w_witness2
  case hc =>
    haveI : FF.LT := ⟨fun _ => false⟩
    refine FF.walk_ofG (l := PySem.Challenge.rw_fewforests_k75_beside_and_doubled) (n := 63) (k := 10) (x := "_law_script") rfl (by decide) (by kernel_rfl) ⟨rfl, by decide, by decide⟩ ?F
    intro w mg fa h Y G hmg0
    obtain ⟨K, KX, c⟩ := Y
    have hmg : mg ("law" : PySem.Str) = some (.ref fa) := by
      have e : (HandSHeadRun.topDef (OpenLaw.row PySem.Challenge.rw_fewforests_k75_beside_and_doubled).prog 35).name = ("law" : PySem.Str) := by kernel_rfl
      rw [← e]
      exact hmg0
    exact ⟨K, KX, FF.lawAt KX G hmg c⟩
