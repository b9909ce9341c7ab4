import PyProof.Rows.All
import Wide.All
import OpenK.AllK
import Wide.FinOn
import HandS.ForMost
import HandS.Rev
import HandS.RevTup
import PyProof.ListStr
import HandS.Style
import HandS.IsInst
import HandS.Walk
import HandS.Text
import KE.KIntText
import HandS.Iter
import KE.GoesEnum
import KE.KExcIs
import HandS.ForExc
import HandS.ExcIs
import HandS.ExcInit
import HandS.ExcField
import HandS.CallLocal
import HandS.Sort
import PyProof.EqAt
import PyProof.NeKinds
import PyProof.ReprRoads
import HandS.ExcValue
import HandS.Codes
import HandS.Star
import HandS.Evl
import HandS.RaiseMore
import PyProof.StrBlock2
import PyProof.ReprBulk
import PyProof.Rows.ReprShort
import HandS.Zip
import HandS.Deep
import HandS.DeepEq
import PySem.Challenge.RW_askladder_k01_refusals
set_option Elab.async false
set_option maxRecDepth 100000
set_option maxHeartbeats 1000000
/-! list(reversed(x)), x a list: a new list -/
namespace Ak
open PySem PySem.Spec PyProof.Rows L2 RT
/-- the new list's maker, called on the iterator that goes down a list -/
theorem list_of_down {P : Program} {w : World} {B : Around} {X : Value → Shared → Prop} {z : Shared} {Want : Value → Shared → Prop} {it src : Addr} {vs : Array Value} (calm : B.handled = none) (small : vs.size ≤ sizeLine)
    (at_it : z.heap.IsRevIter it src ((vs.size : Int) - 1)) (at_src : z.heap.IsList src vs) (apart : src ≠ it)
    (goal : ∀ (g : Heap) (tk : Nat) (got : Array Value) (c : Nat), (∀ b o, b ≠ it → z.heap.get? b = some o → g.get? b = some o) → g.get? z.heap.objs.size = some { cls := .type "list", dict := none, data := .seq got c, slots := #[] } →
      ItemsOf (fun i v => vs[vs.size - 1 - i]? = some v) got vs.size → Want (.ref z.heap.objs.size) { z with heap := g, toks := tk }) : wpAny (model P w) B (call (.type "list") [.ref it]) Want X z := by
  obtain ⟨o1, e1, _⟩ := id at_it
  obtain ⟨o2, e2, _⟩ := id at_src
  have n1 := Nat.ne_of_gt (Heap.lt_size e1); have n2 := Nat.ne_of_gt (Heap.lt_size e2)
  refine callType_codes F.called_list (F.typeCall_list_1 _) F.entry_list_init (code_list_new (Q₁ := fun r q => r = .ref z.heap.objs.size ∧ q = { z with heap := z.heap.push { cls := .type "list", data := .seq #[] } }) _ ⟨rfl, rfl⟩) ?_
  rintro _ _ ⟨rfl, rfl⟩
  have new0 := Heap.get?_push_size (o := ({ cls := .type "list", data := .seq #[] } : Obj)) z.heap rfl
  have at_it1 := at_it.at (h' := z.heap.push { cls := .type "list", data := .seq #[] }) fun o e => Heap.get?_push_of_some _ e
  have at_src1 := at_src.push { cls := .type "list", data := .seq #[] }
  refine ⟨⟨_, new0, rfl⟩, F.args_list_init_2 _ _, ?_⟩
  generalize hz : z.heap.objs.size = S at *
  have same : ∀ {b : Addr} {o : Obj}, b ≠ S → (z.heap.push { cls := .type "list", data := .seq #[] }).get? b = some o → ((z.heap.push { cls := .type "list", data := .seq #[] }).update S (Obj.mapSeq fun _ => #[])).get? b = some o := fun nb e => by
    rw [Heap.get?_update_other _ _ (Ne.symm nb)]; exact e
  refine wpAny_bind (m := Builtin.List.listItems (.ref S)) ?_
  unfold Builtin.List.listItems; refine wpAny_bind (wpAny_seqItems new0 rfl (wpAny_pure ?_))
  refine wpAny_bind (m := Builtin.List.listUpdate (.ref S) fun _ => #[]) ?_
  refine wpAny_updateSeq (f := fun _ => #[]) new0 rfl (wpAny_bind (wpAny_letGo ?_))
  have new1 := Heap.get?_update_self (Obj.mapSeq fun _ => #[]) new0 rfl
  have at_it2 := at_it1.at fun o e => same n1.symm e
  have at_src2 : ((z.heap.push { cls := .type "list", data := .seq #[] }).update S (Obj.mapSeq fun _ => #[])).IsList src vs := let ⟨o, e, r⟩ := at_src1; ⟨o, same n2.symm e, r⟩
  have ty := Heap.IsRevIter.typeIs (s := { z with heap := (z.heap.push { cls := .type "list", data := .seq #[] }).update S (Obj.mapSeq fun _ => #[]) }) at_it2
  have other : Builtin.List.listSameRef (.ref S) (.ref it) = false := by simp [Builtin.List.listSameRef, n1]
  unfold Builtin.List.listExtendWith; refine wpAny_bind (wpAny_typeOf ty ?_); rw [if_neg (by rw [other]; decide)]
  refine wpAny_bind (wpAny_pyIter_revIter (s := { z with heap := (z.heap.push { cls := .type "list", data := .seq #[] }).update S (Obj.mapSeq fun _ => #[]) }) at_it2 (wpAny_bind (wpAny_holding ?_)))
  unfold Builtin.List.listLengthHint; refine wpAny_bind (wpAny_specialOf ty nolen_lri (wpAny_bind (m := specialOf (.ref it) (Str.ofString "__length_hint__")) (wpAny_specialOf ty hint_lri ?_)))
  generalize idd : ("list_reverseiterator.__length_hint__" : String) = hint
  wp_delta
  have cut : splitId hint = some ("list_reverseiterator", "__length_hint__") := by subst idd; decide +kernel
  rw [cut]; subst idd
  refine wpAny_bind (wpAny_isInstance (b := true) ty (by rw [isSubtype_type]; kernel_rfl) (wpAny_pure ?_)); rw [if_neg (by decide)]
  have walks := (Walks.listRev (prog := P) (w := w) (A := B.in1.in1) calm it src apart vs).toS
  have out : S ∉ [it, src] := fun m => by simp only [List.mem_cons, List.not_mem_nil, or_false] at m; exact m.elim n1 n2
  have top : (vs.size : Int) - 1 - ((0 : Nat) : Int) = (vs.size : Int) - 1 := by omega
  refine wpAny_pure ⟨plainId_quiet F.plain_extend_loop _, codeAny_extend_loopS walks small S out Value.none vs.size 0 _ #[] _ rfl (Nat.zero_le _) ⟨Nat.zero_le _, by rw [top]; exact at_it2, at_src2⟩ new1 (ItemsOf.nil _) ?_⟩
  intro q got c moved stands items
  rw [moved.eq_with]
  refine ⟨rfl, goal q.heap q.toks got c (fun b o nb e => moved.heap b o (fun m => ?_) (same ?_ (Heap.get?_push_of_some _ e))) stands items⟩
  · exact (List.mem_cons.mp m).elim (fun x => Nat.ne_of_lt (Heap.lt_size e) (x.trans hz.symm)) fun x => nb (List.mem_singleton.mp x)
  · exact fun x => Nat.ne_of_lt (Heap.lt_size e) (x.trans hz.symm)
/-- list(reversed(x)): x a list, what comes a new one -/
def tLstRev (K : PySem.W.Frag) (te : TE) : TE := fun σ H Q => te σ H fun v H1 => ∃ (a : Addr) (xs : List V), v = .ref a ∧ SqL K H1 a xs ∧ ∀ q, H1 q = none → Q (.ref q) (upd H1 q (.lst xs.reverse))
theorem pe_lstRev {X : Cx} {e : Expr} {te : TE} {p p2 pos pos2 : Pos} (calm : X.calm = true) (g1 : Gl X "list") (m1 : X.mg "list" = none) (g2 : Gl X "reversed") (m2 : X.mg "reversed" = none) (he : PE X e te)
    (one : starEach [e] X.env = [(false, eval e X.env)] := by rfl) (two : starEach [.Call (.Name "reversed" p2) [e] [] pos2] X.env = [(false, eval (.Call (.Name "reversed" p2) [e] [] pos2) X.env)] := by rfl) :
    PE X (.Call (.Name "list" p) [.Call (.Name "reversed" p2) [e] [] pos2] [] pos) (tLstRev X.K te) := by
  constructor
  intro pins s σ H Q I reading
  refine Call_ (ld_blt I g1 m1 PyProof.Rows.boot_list (PyProof.Rows.callWith_type1 (args_cons (Call_ ?_) two) two rfl))
  refine ld_blt I g2 m2 PyProof.Rows.boot_reversed (PyProof.Rows.callWith_type1 (args_cons (thn (he.run pins s σ H _ I reading) ?_) one) one rfl)
  rintro v z ⟨_, J, IJ, rv, src, xs, rfl, seq, rest⟩
  obtain rfl : v = Value.ref src := rv
  obtain ⟨us, rel, stands, small⟩ := IJ.list seq
  refine args_nil (call_reversed_list stands.isList (args_nil ?_))
  have small' : us.toArray.size ≤ sizeLine := by have e := rel.length; simp only [List.size_toArray]; omega
  have isl := stands.isList.push (revObj src ((us.toArray.size : Int) - 1))
  have grown := IJ.kept (h' := z.heap.push (revObj src ((us.toArray.size : Int) - 1))) (t' := z.toks) fun _ _ x => Heap.get?_push_of_some _ x
  have free1 := IJ.fpOk (Nat.le_refl _) (IJ.hok.fresh (Nat.le_refl z.heap.objs.size))
  have apart : src ≠ z.heap.objs.size := let ⟨_, x, _⟩ := id stands.isList; Nat.ne_of_lt (Heap.lt_size x)
  have iter : (z.heap.push (revObj src ((us.toArray.size : Int) - 1))).IsRevIter z.heap.objs.size src ((us.toArray.size : Int) - 1) := ⟨_, Heap.get?_push_size _ rfl, rfl, rfl⟩
  generalize hh : z.heap.push (revObj src ((us.toArray.size : Int) - 1)) = h1 at *
  have none2 := grown.hok.fresh (Nat.le_refl h1.objs.size)
  have free2 := grown.fpOk (Nat.le_refl _) none2
  refine list_of_down (z := { z with heap := h1 }) (IJ.ok.hd calm) small' iter isl apart fun g tk got c kept made items => ?_
  have noIt : ∀ {b : Addr} {u : HO}, J b = some u → b ≠ z.heap.objs.size := fun e x => by rw [x, free1.1] at e; cases e
  have old : ∀ {b : Addr} {u : HO}, J b = some u → b ≠ h1.objs.size := fun e => ne_of_none e none2
  have held : HOk X.prog X.w (upd J h1.objs.size (.lst xs.reverse)) g := by
    intro b u e
    by_cases eb : b = h1.objs.size
    · subst eb
      rw [upd_same] at e; cases e
      exact ⟨Nat.le_trans (Nat.le_of_eq List.length_reverse) small, got.toList, c, vals_rev rel items, by simpa using made⟩
    · rw [upd_ne eb] at e
      exact (grown.hok b u e).stay (fun d v at_ q => kept d v (at_.elim (fun x => x ▸ noIt e) fun x => noIt x) q) (fun d q => (upd_ne (old q)).trans q) fun d ys q => (upd_ne (old q)).trans q
  have changed : ∀ {b : Addr}, b ∉ [z.heap.objs.size, h1.objs.size] → b ≠ z.heap.objs.size ∧ b ≠ h1.objs.size := fun n => ⟨fun x => n (by simp [x]), fun x => n (by simp [x])⟩
  refine ⟨.ref h1.objs.size, upd J h1.objs.size (.lst xs.reverse), grown.step (ch := [z.heap.objs.size, h1.objs.size]) (g' := z.gens) (d' := z.drawn) (t' := tk) ?_ (fun b o _ _ n e _ => kept b o (changed n).1 e) (fun b o _ _ n e _ => ⟨_, kept b o (changed n).1 e⟩)
    (fun b o n _ e => (upd_ne (changed n).2).trans e) (fun b o n e => ⟨o, kept b o (changed n).1 e⟩) (fun b ys e => (upd_ne (old e)).trans e) (fun b o u e => (upd_ne (old e)).trans e) (fun b ps e => ⟨#[], by rw [upd_ne (old e), e, Array.append_empty]⟩) ?_ held IJ.bare, rfl, rest _ none2⟩
  · intro b m
    rcases (by simpa using m : b = z.heap.objs.size ∨ b = h1.objs.size) with rfl | rfl
    · exact ⟨free1.2.2.2.1, free1.2.1, free1.2.2.2.2⟩
    · exact ⟨free2.2.2.2.1, free2.2.1, free2.2.2.2.2⟩
  · rintro m ⟨o, es, ep, e, r⟩
    exact ⟨o, es, ep, kept _ o (Ne.symm free1.2.1) e, r⟩
end Ak
/-! What all the laws' proofs share: a def as the top left it; the box of draws (a dict with a seed, a number, a list of numbers left). -/
namespace Ak
open PySem L2

/-- a def of the top, called by its name -/
structure Fn (K : PySem.W.Frag) (mg : Str → Option Value) (nm : Str) (st : Stmt) (ps : List Str) (f : Addr) (fd : FuncData) : Prop where
  mg : mg nm = some (.ref f)
  kp : PySem.W.keepIn K (.ref f) = true
  F : Fun K nm nm st f fd
  b : Binds K fd ps []

/-! ### the box of draws -/
theorem kSN : ¬ ((Sum.inr ("seed" : Str) : Key) = Sum.inr ("number" : Str)) := by decide +kernel
theorem kSL : ¬ ((Sum.inr ("seed" : Str) : Key) = Sum.inr ("left" : Str)) := by decide +kernel
theorem kNL : ¬ ((Sum.inr ("number" : Str) : Key) = Sum.inr ("left" : Str)) := by decide +kernel
theorem kNS : ¬ ((Sum.inr ("number" : Str) : Key) = Sum.inr ("seed" : Str)) := by decide +kernel
theorem kLS : ¬ ((Sum.inr ("left" : Str) : Key) = Sum.inr ("seed" : Str)) := by decide +kernel
theorem kLN : ¬ ((Sum.inr ("left" : Str) : Key) = Sum.inr ("number" : Str)) := by decide +kernel
def dealL (s n : Int) (l : Addr) : List (Key × V) := [(Sum.inr ("seed" : Str), .int s), (Sum.inr ("number" : Str), .int n), (Sum.inr ("left" : Str), .ref l)]
theorem deal_seed (s n : Int) (l : Addr) : valV (dealL s n l) (Sum.inr ("seed" : Str)) = some (.int s) := valV_pos rfl
theorem deal_number (s n : Int) (l : Addr) : valV (dealL s n l) (Sum.inr ("number" : Str)) = some (.int n) := (valV_neg kSN).trans (valV_pos rfl)
theorem deal_left (s n : Int) (l : Addr) : valV (dealL s n l) (Sum.inr ("left" : Str)) = some (.ref l) := (valV_neg kSL).trans ((valV_neg kNL).trans (valV_pos rfl))
theorem deal_puts (s n x : Int) (l : Addr) : putK (dealL s n l) (Sum.inr ("seed" : Str)) (.int x) = dealL x n l := by
  have e1 := decide_eq_false kNS
  have e2 := decide_eq_false kLS
  unfold putK dealL
  rw [if_pos (by simp)]
  simp only [List.map_cons, List.map_nil, if_pos, if_neg kNS, if_neg kLS]
theorem deal_putn (s n x : Int) (l : Addr) : putK (dealL s n l) (Sum.inr ("number" : Str)) (.int x) = dealL s x l := by
  unfold putK dealL
  rw [if_pos (by simp)]
  simp only [List.map_cons, List.map_nil, if_pos, if_neg kSN, if_neg kLN]

theorem deal_gs {H : Hp} {d l : Addr} {s n : Int} (e : H d = some (.dK (dealL s n l))) : DGet H d (.str ("seed" : Str)) (some (.int s)) := by
  rw [← deal_seed s n l]; exact DGet.k (k := Sum.inr ("seed" : Str)) e
theorem deal_gn {H : Hp} {d l : Addr} {s n : Int} (e : H d = some (.dK (dealL s n l))) : DGet H d (.str ("number" : Str)) (some (.int n)) := by
  rw [← deal_number s n l]; exact DGet.k (k := Sum.inr ("number" : Str)) e
theorem deal_gl {H : Hp} {d l : Addr} {s n : Int} (e : H d = some (.dK (dealL s n l))) : DGet H d (.str ("left" : Str)) (some (.ref l)) := by
  rw [← deal_left s n l]; exact DGet.k (k := Sum.inr ("left" : Str)) e
theorem deal_ps {H : Hp} {d l : Addr} {s n : Int} (x : Int) (e : H d = some (.dK (dealL s n l))) : DPut H d (.str ("seed" : Str)) (.int x) (upd H d (.dK (dealL x n l))) := by
  rw [← deal_puts s n x l]; exact DPut.k (k := Sum.inr ("seed" : Str)) e (by show 3 < sizeLine; decide)
theorem deal_pn {H : Hp} {d l : Addr} {s n : Int} (x : Int) (e : H d = some (.dK (dealL s n l))) : DPut H d (.str ("number" : Str)) (.int x) (upd H d (.dK (dealL s x l))) := by
  rw [← deal_putn s n x l]; exact DPut.k (k := Sum.inr ("number" : Str)) e (by show 3 < sizeLine; decide)

theorem deal_merge (s n : Int) (l : Addr) : mergeK ([] : List (Key × V)) (dealL s n l) = dealL s n l := by
  show putK (putK (putK [] (Sum.inr ("seed" : Str)) (.int s)) (Sum.inr ("number" : Str)) (.int n)) (Sum.inr ("left" : Str)) (.ref l) = dealL s n l
  rw [putK_new (kvs := []) _ rfl, putK_new (kvs := [] ++ [(Sum.inr ("seed" : Str), V.int s)]) _ ((valV_neg kSN).trans rfl), putK_new (kvs := [] ++ [(Sum.inr ("seed" : Str), V.int s)] ++ [(Sum.inr ("number" : Str), V.int n)]) _ ((valV_neg kSL).trans ((valV_neg kNL).trans rfl))]
  rfl
def ab (x : Int) : Int := if 0 - x > x then 0 - x else x
theorem ab_nonneg (x : Int) : 0 ≤ ab x := by unfold ab; split <;> omega

/-- a comprehension's turn without a test -/
theorem lc_yes {A B : Hp → Prop} {σ : L2.St} {H : Hp} (h : A H) : tYes σ H (fun b H3 => if b = true then A H3 else B H3) := by
  show (if true = true then A H else B H)
  rw [if_pos rfl]
  exact h

/-! ### tests that change nothing: p is what they decide -/
def Dec (t : TT) (σ : L2.St) (H : Hp) (p : Prop) : Prop := ∀ Q : Bool → Hp → Prop, (p → Q true H) → (¬ p → Q false H) → t σ H Q
theorem dec_and {t u : TT} {σ : L2.St} {H : Hp} {p q : Prop} (h1 : Dec t σ H p) (h2 : p → Dec u σ H q) : Dec (tAnd t u) σ H (p ∧ q) := fun Q a b => h1 _ (fun hp => by
  show u σ H Q
  exact h2 hp Q (fun hq => a ⟨hp, hq⟩) fun hq => b fun z => hq z.2) fun hp => by
  show Q false H
  exact b fun z => hp z.1
theorem dec_or {t u : TT} {σ : L2.St} {H : Hp} {p q : Prop} (h1 : Dec t σ H p) (h2 : ¬ p → Dec u σ H q) : Dec (tOr t u) σ H (p ∨ q) := fun Q a b => h1 _ (fun hp => by
  show Q true H
  exact a (.inl hp)) fun hp => by
  show u σ H Q
  exact h2 hp Q (fun hq => a (.inr hq)) fun hq => b fun z => z.elim hp hq
theorem dec_not {t : TT} {σ : L2.St} {H : Hp} {p : Prop} (h1 : Dec t σ H p) : Dec (tNot t) σ H (¬ p) := fun Q a b => h1 _ (fun hp => b fun z => z hp) a
/-- a test is the value of an expression -/
theorem dec_of {te : TE} {σ : L2.St} {H : Hp} {p : Prop} [Decidable p] (h : ∀ Q : VK, Q (.bl (decide p)) H → te σ H Q) : Dec (tTest te) σ H p := fun Q a b => h _ ⟨_, rfl, by
  by_cases hp : p
  · rw [decide_eq_true hp]; exact a hp
  · rw [decide_eq_false hp]; exact b hp⟩
theorem dec_if {t : TT} {u v : TS} {D : Ends} {σ : L2.St} {H : Hp} {p : Prop} (h : Dec t σ H p) (h1 : p → u D σ H) (h2 : ¬ p → v D σ H) : tIfS t u v D σ H := h _ (fun hp => iteT (h1 hp)) fun hp => iteF (h2 hp)
theorem Dec.iff {t : TT} {σ : L2.St} {H : Hp} {p q : Prop} (h : Dec t σ H p) (e : p ↔ q) : Dec t σ H q := fun Q a b => h Q (fun x => a (e.mp x)) fun x => b fun y => x (e.mpr y)

/-- the box stands at d, its list at l -/
def DealAt (H : Hp) (d l : Addr) : Prop := ∃ (s n : Int) (left : List Int), 0 ≤ s ∧ s < 2147483647 ∧ 0 ≤ n ∧ (∀ x ∈ left, 0 ≤ x) ∧ H d = some (.dK (dealL s n l)) ∧ H l = some (.lst (left.map V.int))
theorem DealAt.ne {H : Hp} {d l : Addr} (h : DealAt H d l) : d ≠ l := by
  obtain ⟨s, n, left, _, _, _, _, h1, h2⟩ := h
  exact ne_of h1 h2 (by intro z; cases z)
/-- all that is tracked stands as it stood, but for the box -/
def Kp (d l : Addr) (H H' : Hp) : Prop := ∀ b o, H b = some o → b ≠ d → b ≠ l → H' b = some o
theorem Kp.refl (d l : Addr) (H : Hp) : Kp d l H H := fun _ _ e _ _ => e
theorem Kp.trans {d l : Addr} {H H1 H2 : Hp} (a : Kp d l H H1) (b : Kp d l H1 H2) : Kp d l H H2 := fun c o e h1 h2 => b c o (a c o e h1 h2) h1 h2
theorem Kp.same {d l : Addr} {H H' : Hp} (a : Same H H') : Kp d l H H' := fun c o e _ _ => a c o e
theorem Same.new {H : Hp} {p : Addr} {o : HO} (h : H p = none) : Same H (upd H p o) := fun b u e => by rw [upd_ne (ne_of_none e h)]; exact e
theorem DealAt.same {H H' : Hp} {d l : Addr} (h : DealAt H d l) (a : Same H H') : DealAt H' d l := by
  obtain ⟨s, n, left, h1, h2, h3, h4, h5, h6⟩ := h
  exact ⟨s, n, left, h1, h2, h3, h4, a _ _ h5, a _ _ h6⟩
theorem DealAt.not {H : Hp} {d l p : Addr} {o : HO} (h : DealAt H d l) (e : H p = some o) (n1 : ∀ kvs, o ≠ .dK kvs) (n2 : ∀ xs, o ≠ .lst xs) : p ≠ d ∧ p ≠ l := by
  obtain ⟨s, n, left, _, _, _, _, h1, h2⟩ := h
  exact ⟨ne_of e h1 (n1 _), ne_of e h2 (n2 _)⟩
theorem DealAt.new {H : Hp} {d l p : Addr} (h : DealAt H d l) (e : H p = none) : p ≠ d ∧ p ≠ l := by
  obtain ⟨s, n, left, _, _, _, _, h1, h2⟩ := h
  exact ⟨(ne_of_none h1 e).symm, (ne_of_none h2 e).symm⟩
theorem DealAt.upd {H : Hp} {d l p : Addr} {o : HO} (h : DealAt H d l) (n : p ≠ d ∧ p ≠ l) : DealAt (upd H p o) d l := by
  obtain ⟨s, m, left, h1, h2, h3, h4, h5, h6⟩ := h
  exact ⟨s, m, left, h1, h2, h3, h4, by rw [upd_ne n.1.symm]; exact h5, by rw [upd_ne n.2.symm]; exact h6⟩
/-- what is new may change -/
theorem Kp.mut {d l p : Addr} {H H1 H2 : Hp} {o : HO} (a : Kp d l H H1) (b : Kp d l H H2) (n : H1 p = none) : Kp d l H (L2.upd H2 p o) := fun c u e h1 h2 => by
  rw [upd_ne (ne_of_none (a c u e h1 h2) n)]
  exact b c u e h1 h2
/-- a draw: any number from 0 to n - 1 -/
def spDraw : Sp := fun vs H Q _ => ∃ (d l : Addr) (n : Int), vs = [.ref d, .int n] ∧ DealAt H d l ∧ 1 ≤ n ∧ n < 1073741824 ∧
  ∀ (r : Int) (H' : Hp), 0 ≤ r → r < n → DealAt H' d l → Kp d l H H' → Q (.int r) H'
/-- the box made of a script -/
def spDeal (K : PySem.W.Frag) : Sp := fun vs H Q _ => ∃ (a : Addr) (ns : List Int) (b : Int), vs = [.ref a, .int b] ∧ SqL K H a (ns.map V.int) ∧ ns.length ≤ 100 ∧ 0 ≤ b ∧ b ≤ 63 ∧
  ∀ (d l : Addr) (H' : Hp), H d = none → H l = none → DealAt H' d l → Same H H' → Q (.ref d) H'
end Ak
/-! texts: a loop, a comprehension over a text's signs; a new object -/
namespace Ak
open PySem L2
/-- a loop over a text's signs; a comprehension over them -/
def for_sign {x : Str} {g : TG} {tb : TS} {D : Ends} {σ : L2.St} {H : Hp} (Pv : Nat → L2.St → Hp → Prop) (h0 : Pv 0 σ H)
    (hs : ∀ (i c : Nat) (τ : L2.St) (J : Hp), x.cps[i]? = some c → Pv i τ J → g (.str ⟨#[c]⟩) τ J (tb { D with nx := Pv (i + 1), ct := Pv (i + 1), bk := D.nx })) (hd : ∀ τ J, Pv x.cps.size τ J → D.nx τ J) :=
  for_it (walk_str (z := x)) Pv h0 (fun _ _ _ _ _ => True.intro) (fun i v τ J J' _ p y => by obtain ⟨rfl, c, hc, rfl⟩ := y; exact hs i c τ _ hc p) hd
def lc_sign {x : Str} {g : TG} {tt : TT} {te : TE} {vs : List Nat} {σ : L2.St} {H1 : Hp} {D : Addr} {Qd : Hp → Prop} (Pv : Nat → Hp → Prop) (h0 : Pv 0 (upd H1 D (.lst [])))
    (hs : ∀ (i c : Nat) (J : Hp), x.cps[i]? = some c → Pv i J → g (.str ⟨#[c]⟩) (wipe σ vs) J fun τ J2 => wipe τ vs = wipe σ vs ∧ tt τ J2 fun b J3 => if b = true then te τ J3 fun y J4 => ∃ got, J4 D = some (.lst got) ∧ got.length < sizeLine ∧ Pv (i + 1) (upd J4 D (.lst (got ++ [y]))) else Pv (i + 1) J3)
    (hd : ∀ J, Pv x.cps.size J → Qd J) :=
  lc_it (walk_str (z := x)) (g := g) (tt := tt) (te := te) (vs := vs) (σ := σ) Pv h0 (fun _ _ _ _ => True.intro) (fun i v J J' _ p y => by obtain ⟨rfl, c, hc, rfl⟩ := y; exact hs i c _ hc p) hd
theorem atI_in {α : Type} {xs : List α} {i : Int} (h0 : 0 ≤ i) (h1 : i < (xs.length : Int)) : ∃ v, atI xs i = some v ∧ v ∈ xs := by
  obtain ⟨j, rfl⟩ : ∃ j : Nat, i = (j : Int) := ⟨i.toNat, by omega⟩
  have hj : j < xs.length := by omega
  exact ⟨xs[j], atI_nat (List.getElem?_eq_getElem hj), List.getElem_mem hj⟩
theorem cutS_le (z : Str) (lo hi : Option Int) : (cutS z lo hi).length ≤ z.length := by
  show (cutS z lo hi).cps.size ≤ z.cps.size
  rw [← Array.length_toList, ← Array.length_toList]
  unfold cutS
  rw [List.length_take, List.length_drop]
  omega
theorem add_len (a b : Str) : (a ++ b).length = a.length + b.length := by
  show (a.cps ++ b.cps).size = a.cps.size + b.cps.size
  exact Array.size_append
theorem join_len : ∀ ys : List Str, (Str.join Str.empty ys).length = (ys.map (·.length)).sum
  | [] => rfl
  | [x] => by
    show x.length = _
    simp
  | x :: y :: r => by
    show ((x ++ Str.empty) ++ Str.join Str.empty (y :: r)).length = _
    rw [add_len, add_len, join_len (y :: r)]
    show x.length + 0 + _ = _
    simp
theorem sum_ones {ys : List Str} (h : ∀ y ∈ ys, y.length = 1) : (ys.map (·.length)).sum = ys.length := by
  induction ys with
  | nil => rfl
  | cons a r ih =>
    rw [List.map_cons, List.sum_cons, h a (by simp), ih fun y hy => h y (by simp [hy]), List.length_cons]
    omega
/-- all signs of t are in s -/
def onlyOf (t s : Str) : Bool := t.cps.toList.all fun c => decide (c ∈ s.cps.toList)
def spOnly : Sp := fun vs H Q _ => ∃ t s : Str, vs = [.str t, .str s] ∧ t.length ≤ 1000 ∧ ∀ H', Same H H' → Q (.bl (onlyOf t s)) H'
/-- a text in, a truth out -/
def spB (g : Str → Bool) : Sp := fun vs H Q _ => ∃ t : Str, vs = [.str t] ∧ t.length ≤ 1000 ∧ ∀ H', Same H H' → Q (.bl (g t)) H'
end Ak
/-! names and figures -/
namespace Ak
open PySem L2 TL
def lets : Str := "abcdefghijklmnopqrstuvwxyz"
def figs : Str := "0123456789"
def NNs : List Str := ["ask", "keeper", "def", "to", "note", "takes", "gives", "hears", "let", "be", "call", "keep", "go", "give", "tell", "if", "else", "case", "none", "more", "end", "empty", "put", "last", "num", "nums", "hold", "holds"]
def isName (t : Str) : Bool := (decide (1 ≤ t.length) && decide (t.length ≤ 8)) && (onlyOf t lets && !inV (.str t) (NNs.map V.str))
def isFigs (t : Str) : Bool := (decide (1 ≤ t.length) && decide (t.length ≤ 9)) && (onlyOf t figs && (decide (V.str t = .str "0") || !decide (V.str ⟨#[t.cps[0]?.getD 0]⟩ = .str "0")))
theorem len_sz {t : Str} (h : t.length ≤ 1000) : t.length ≤ sizeLine := Nat.le_of_lt (small1000 h)
theorem sz1000 {n : Nat} (h : n ≤ 1000) : n ≤ sizeLine := Nat.le_of_lt (small1000 h)
theorem nn_flat : (NNs.map V.str).all flatV = true := by decide +kernel
theorem lets_tl : lets.cps.toList = [97, 98, 99, 100, 101, 102, 103, 104, 105, 106, 107, 108, 109, 110, 111, 112, 113, 114, 115, 116, 117, 118, 119, 120, 121, 122] := by decide +kernel
theorem figs_tl : figs.cps.toList = [48, 49, 50, 51, 52, 53, 54, 55, 56, 57] := by decide +kernel
theorem mem_lets {c : Nat} : c ∈ lets.cps.toList ↔ 97 ≤ c ∧ c ≤ 122 := by
  rw [lets_tl]; simp only [List.mem_cons, List.not_mem_nil, or_false]; omega
theorem mem_figs {c : Nat} : c ∈ figs.cps.toList ↔ 48 ≤ c ∧ c ≤ 57 := by
  rw [figs_tl]; simp only [List.mem_cons, List.not_mem_nil, or_false]; omega
theorem name_parts {t : Str} (h : isName t = true) : 1 ≤ t.length ∧ t.length ≤ 8 ∧ (∀ c ∈ t.cps.toList, 97 ≤ c ∧ c ≤ 122) ∧ inV (.str t) (NNs.map V.str) = false := by
  unfold isName at h
  simp only [Bool.and_eq_true, decide_eq_true_eq, Bool.not_eq_true'] at h
  obtain ⟨⟨a, b⟩, c, d⟩ := h
  refine ⟨a, b, fun x hx => ?_, d⟩
  unfold onlyOf at c
  exact mem_lets.mp (of_decide_eq_true (List.all_eq_true.mp c x hx))
theorem name_not_figs {t : Str} (h : isName t = true) : isFigs t = false := by
  obtain ⟨a, _, b, _⟩ := name_parts h
  have e : onlyOf t figs = false := by
    unfold onlyOf
    rw [List.all_eq_false]
    have hz : 0 < t.cps.toList.length := by rw [Array.length_toList]; exact a
    refine ⟨t.cps.toList[0], List.getElem_mem hz, ?_⟩
    have q := b _ (List.getElem_mem hz)
    rw [decide_eq_true_eq, mem_figs]
    omega
  unfold isFigs
  rw [e, Bool.false_and, Bool.and_false]
/-- a number as texts write it -/
def fig (n : Int) : Str := Str.ofString (toString n)
theorem fig_tl (n : Nat) : (fig (n : Int)).cps.toList = numL n := tl_num n
theorem numL_hd : ∀ n : Nat, 0 < n → ∃ c r, numL n = c :: r ∧ 49 ≤ c ∧ c ≤ 57 := by
  intro n
  induction n using Nat.strongRecOn with
  | _ n ih =>
    intro h
    by_cases hn : n < 10
    · exact ⟨48 + n, [], by rw [numL_lt hn], by omega, by omega⟩
    · obtain ⟨c, r, e, h1, h2⟩ := ih (n / 10) (by omega) (by omega)
      exact ⟨c, r ++ [48 + n % 10], by rw [numL_step (by omega), e]; rfl, h1, h2⟩
theorem fig_ok {n : Int} (h0 : 0 ≤ n) (h1 : n ≤ 999999999) : isFigs (fig n) = true ∧ (fig n).length ≤ 9 := by
  obtain ⟨m, rfl⟩ := Int.eq_ofNat_of_zero_le h0
  have hl : (fig (m : Int)).length = (numL m).length := by
    show (fig (m : Int)).cps.size = _
    rw [← Array.length_toList, fig_tl]
  have l9 : (numL m).length ≤ 9 := numL_len (by decide) (by omega)
  have l1 : 1 ≤ (numL m).length := by
    have := numL_ne m
    cases e : numL m with
    | nil => exact absurd e this
    | cons c r => simp
  have on : onlyOf (fig (m : Int)) figs = true := by
    unfold onlyOf
    rw [List.all_eq_true]
    intro c hc
    rw [fig_tl] at hc
    exact decide_eq_true (mem_figs.mpr (numL_digits m c hc))
  refine ⟨?_, by rw [hl]; exact l9⟩
  unfold isFigs
  rw [on, decide_eq_true (show 1 ≤ (fig (m : Int)).length by rw [hl]; exact l1), decide_eq_true (show (fig (m : Int)).length ≤ 9 by rw [hl]; exact l9)]
  by_cases hm : m = 0
  · have e : decide (V.str (fig ((m : Nat) : Int)) = .str "0") = true := by rw [hm]; decide +kernel
    rw [e]; rfl
  · obtain ⟨c, r, e, c1, c2⟩ := numL_hd m (by omega)
    have g : (fig (m : Int)).cps[0]? = some c := by rw [← Array.getElem?_toList, fig_tl, e]; rfl
    rw [g]
    have e2 : decide (V.str (⟨#[c]⟩ : Str) = .str "0") = false := decide_eq_false fun z => by
      have hz : ("0" : Str) = ⟨#[48]⟩ := by decide +kernel
      rw [hz] at z
      injection z with z
      injection z with z
      have : c = 48 := by simpa using z
      omega
    rw [Option.getD_some, e2]
    simp
/-- a word's signs are neither a blank nor a line feed, and there is one -/
def Clean (w : Str) : Prop := 1 ≤ w.length ∧ w.length ≤ 9 ∧ 32 ∉ w.cps.toList ∧ 10 ∉ w.cps.toList
theorem name_clean {t : Str} (h : isName t = true) : Clean t := by
  obtain ⟨a, b, c, _⟩ := name_parts h
  exact ⟨a, by omega, fun z => by have := c _ z; omega, fun z => by have := c _ z; omega⟩
theorem fig_clean {n : Int} (h0 : 0 ≤ n) (h1 : n ≤ 999999999) : Clean (fig n) := by
  obtain ⟨f1, f2⟩ := fig_ok h0 h1
  obtain ⟨m, rfl⟩ := Int.eq_ofNat_of_zero_le h0
  refine ⟨?_, f2, ?_, ?_⟩
  · unfold isFigs at f1
    simp only [Bool.and_eq_true, decide_eq_true_eq] at f1
    exact f1.1.1
  · rw [fig_tl]; exact numL_free (by omega)
  · rw [fig_tl]; exact numL_free (by omega)
end Ak
/-! Programs as data: what a heap holds of them, their words, the heads that a reader gathers. -/
namespace Ak
open PySem L2

/-! ### data: numbers, texts, tuples of such -/
inductive D where
  | i (n : Int) | s (x : Str) | t (ds : List D)
mutual
def Rep (H : Hp) : D → V → Prop
  | .i n, v => v = .int n
  | .s x, v => v = .str x
  | .t ds, v => ∃ p vs, v = .ref p ∧ H p = some (.tup vs) ∧ Reps H ds vs
def Reps (H : Hp) : List D → List V → Prop
  | [], vs => vs = []
  | d :: ds, vs => ∃ v r, vs = v :: r ∧ Rep H d v ∧ Reps H ds r
end
/-- tuples stand for ever -/
def TupK (H H' : Hp) : Prop := ∀ p vs, H p = some (.tup vs) → H' p = some (.tup vs)
theorem TupK.refl (H : Hp) : TupK H H := fun _ _ e => e
theorem TupK.trans {H H1 H2 : Hp} (a : TupK H H1) (b : TupK H1 H2) : TupK H H2 := fun p vs e => b p vs (a p vs e)
theorem TupK.same {H H' : Hp} (a : Same H H') : TupK H H' := fun p vs e => a p _ e
theorem TupK.kp {d l : Addr} {H H' : Hp} (h : DealAt H d l) (a : Kp d l H H') : TupK H H' := fun p vs e => by
  have n := h.not e (fun _ z => nomatch z) (fun _ z => nomatch z)
  exact a p _ e n.1 n.2
mutual
theorem Rep.mono {H H' : Hp} (k : TupK H H') : ∀ {d : D} {v : V}, Rep H d v → Rep H' d v
  | .i n, v, h => h
  | .s x, v, h => h
  | .t ds, v, h => by
    obtain ⟨p, vs, e, hp, r⟩ := h
    exact ⟨p, vs, e, k p vs hp, Reps.mono k r⟩
theorem Reps.mono {H H' : Hp} (k : TupK H H') : ∀ {ds : List D} {vs : List V}, Reps H ds vs → Reps H' ds vs
  | [], vs, h => h
  | d :: ds, vs, h => by
    obtain ⟨v, r, e, h1, h2⟩ := h
    exact ⟨v, r, e, Rep.mono k h1, Reps.mono k h2⟩
end
theorem Reps.nil {H : Hp} : Reps H [] [] := rfl
theorem Reps.cons {H : Hp} {d : D} {ds : List D} {v : V} {vs : List V} (a : Rep H d v) (b : Reps H ds vs) : Reps H (d :: ds) (v :: vs) := ⟨v, vs, rfl, a, b⟩
theorem Reps.append {H : Hp} : ∀ {as bs : List D} {us vs : List V}, Reps H as us → Reps H bs vs → Reps H (as ++ bs) (us ++ vs)
  | [], _, _, _, h, g => by
    have e : _ = [] := h
    rw [e]; exact g
  | d :: ds, bs, us, vs, h, g => by
    obtain ⟨v, r, rfl, h1, h2⟩ := h
    exact Reps.cons h1 (Reps.append h2 g)
theorem Reps.len {H : Hp} : ∀ {ds : List D} {vs : List V}, Reps H ds vs → vs.length = ds.length
  | [], vs, h => by
    have e : vs = [] := h
    rw [e]; rfl
  | d :: ds, vs, h => by
    obtain ⟨v, r, rfl, h1, h2⟩ := h
    rw [List.length_cons, List.length_cons, Reps.len h2]
theorem Reps.get {H : Hp} : ∀ {ds : List D} {vs : List V} {j : Nat} {d : D}, Reps H ds vs → ds[j]? = some d → ∃ v, vs[j]? = some v ∧ Rep H d v
  | [], _, _, _, _, e => by simp at e
  | d :: ds, vs, 0, d', h, e => by
    obtain ⟨v, r, rfl, h1, h2⟩ := h
    have q : d = d' := by simpa using e
    exact ⟨v, rfl, q ▸ h1⟩
  | d :: ds, vs, j + 1, d', h, e => by
    obtain ⟨v, r, rfl, h1, h2⟩ := h
    exact Reps.get (j := j) h2 (by simpa using e)
theorem Reps.set {H : Hp} {d : D} {v : V} (a : Rep H d v) : ∀ {ds : List D} {vs : List V} (j : Nat), Reps H ds vs → Reps H (ds.set j d) (vs.set j v)
  | [], vs, j, h => by
    have e : vs = [] := h
    subst e
    exact h
  | x :: ds, vs, 0, h => by
    obtain ⟨y, r, rfl, h1, h2⟩ := h
    exact Reps.cons a h2
  | x :: ds, vs, j + 1, h => by
    obtain ⟨y, r, rfl, h1, h2⟩ := h
    exact Reps.cons h1 (Reps.set a j h2)
theorem Reps.snoc {H : Hp} {ds : List D} {d : D} {vs : List V} (h : Reps H (ds ++ [d]) vs) : ∃ us v, vs = us ++ [v] ∧ Reps H ds us ∧ Rep H d v := by
  induction ds generalizing vs with
  | nil =>
    obtain ⟨v, r, rfl, h1, h2⟩ := h
    have e : r = [] := h2
    exact ⟨[], v, by rw [e]; rfl, rfl, h1⟩
  | cons x ds ih =>
    obtain ⟨v, r, rfl, h1, h2⟩ := h
    obtain ⟨us, w, rfl, g1, g2⟩ := ih h2
    exact ⟨v :: us, w, rfl, Reps.cons h1 g1, g2⟩
theorem Rep.tup {H : Hp} {ds : List D} {p : Addr} {vs : List V} (e : H p = some (.tup vs)) (r : Reps H ds vs) : Rep H (.t ds) (.ref p) := ⟨p, vs, rfl, e, r⟩
/-- a new tuple of things that stand -/
theorem Rep.new {H : Hp} {ds : List D} {p : Addr} {vs : List V} (n : H p = none) (r : Reps H ds vs) : Rep (upd H p (.tup vs)) (.t ds) (.ref p) :=
  ⟨p, vs, rfl, upd_same, r.mono (TupK.same (Same.new n))⟩

/-! ### atoms, kinds, bodies -/
inductive Atom where
  | nm (x : Str) | nu (n : Int)
def Atom.d : Atom → D | .nm x => .s x | .nu n => .i n
def Atom.v : Atom → V | .nm x => .str x | .nu n => .int n
def Atom.w : Atom → Str | .nm x => x | .nu n => fig n
theorem Atom.rep {H : Hp} (a : Atom) : Rep H a.d a.v := by cases a <;> rfl
inductive Kd where
  | num | nums | hold (k q : Str) | holds (k q : Str)
def Kd.w : Kd → List Str | .num => ["num"] | .nums => ["nums"] | .hold k q => ["hold", k, q] | .holds k q => ["holds", k, q]
def Kd.d (k : Kd) : D := .t (k.w.map D.s)
/-- what stands behind the be of a let -/
inductive Made where
  | same (a : Atom) | sum (s : Str) (a b : Atom) | empty (k : Kd) | put (a r : Atom) | last (r a : Atom) | call (f : Str) (args : List Atom) | ask (q : Str) (a : Atom)
  | keep (k : Str) (a : Atom) (f : Str) (args : List Atom) | go (h a n : Atom)
def argsD (args : List Atom) : D := .t (args.map Atom.d)
def Made.hd (x : Str) : Made → List D
  | .same a => [.s "let", .s x, a.d]
  | .sum s a b => [.s "sum", .s x, .s s, a.d, b.d]
  | .empty k => [.s "empty", .s x, k.d]
  | .put a r => [.s "put", .s x, a.d, r.d]
  | .last r a => [.s "last", .s x, r.d, a.d]
  | .call f args => [.s "call", .s x, .s f, argsD args]
  | .ask q a => [.s "ask", .s x, .s q, a.d]
  | .keep k a f args => [.s "keep", .s x, .s k, a.d, .s f, argsD args]
  | .go h a n => [.s "go", .s x, h.d, a.d, n.d]
def Made.w : Made → List Str
  | .same a => [a.w]
  | .sum s a b => [a.w, s, b.w]
  | .empty k => "empty" :: k.w
  | .put a r => "put" :: a.w :: r.w :: []
  | .last r a => "last" :: r.w :: a.w :: []
  | .call f args => "call" :: f :: args.map Atom.w
  | .ask q a => "ask" :: q :: a.w :: []
  | .keep k a f args => "keep" :: k :: a.w :: f :: args.map Atom.w
  | .go h a n => "go" :: h.w :: a.w :: n.w :: []
inductive Body where
  | give (a : Atom) | tell (a : Atom) (b : Body) | ite (a : Atom) (b c : Body) | case (r : Atom) (b : Body) (x y : Str) (c : Body) | bind (x : Str) (m : Made) (b : Body)
def Body.d : Body → D
  | .give a => .t [.s "give", a.d]
  | .tell a b => .t [.s "tell", a.d, b.d]
  | .ite a b c => .t [.s "if", a.d, b.d, c.d]
  | .case r b x y c => .t [.s "case", r.d, b.d, .s x, .s y, c.d]
  | .bind x m b => .t (m.hd x ++ [b.d])
def Body.w : Body → List Str
  | .give a => "give" :: a.w :: []
  | .tell a b => "tell" :: a.w :: ";" :: b.w
  | .ite a b c => "if" :: a.w :: ":" :: (b.w ++ (("else" : Str) :: (c.w ++ [("end" : Str)])))
  | .case r b x y c => "case" :: r.w :: "none" :: (b.w ++ (("more" : Str) :: x :: y :: (":" : Str) :: (c.w ++ [("end" : Str)])))
  | .bind x m b => "let" :: x :: "be" :: (m.w ++ ((";" : Str) :: b.w))
/-- the heads of its pieces, in order -/
def Body.hs : Body → List D
  | .give a => [.t [.s "give", a.d]]
  | .tell a b => .t [.s "tell", a.d] :: b.hs
  | .ite a b c => .t [.s "if", a.d] :: (b.hs ++ c.hs)
  | .case r b x y c => .t [.s "case", r.d, .s x, .s y] :: (b.hs ++ c.hs)
  | .bind x m b => .t (m.hd x) :: b.hs
def Body.size : Body → Nat
  | .give _ => 1
  | .tell _ b => b.size + 1
  | .ite _ b c => b.size + c.size + 1
  | .case _ b _ _ c => b.size + c.size + 1
  | .bind _ _ b => b.size + 1

/-! ### what is a program's: names and numbers within their forms -/
def Atom.Ok : Atom → Prop | .nm x => isName x = true | .nu n => 0 ≤ n ∧ n ≤ 999999999
def Kd.Ok : Kd → Prop | .num => True | .nums => True | .hold k q => isName k = true ∧ isName q = true | .holds k q => isName k = true ∧ isName q = true
def Kd.row : Kd → Prop | .nums => True | .holds _ _ => True | _ => False
def signs : List Str := ["+", "-", "*", "<", "="]
def Made.Ok : Made → Prop
  | .same a => a.Ok
  | .sum s a b => s ∈ signs ∧ a.Ok ∧ b.Ok
  | .empty k => k.Ok ∧ k.row
  | .put a r => a.Ok ∧ r.Ok
  | .last r a => r.Ok ∧ a.Ok
  | .call f args => isName f = true ∧ ∀ a ∈ args, a.Ok
  | .ask q a => isName q = true ∧ a.Ok
  | .keep k a f args => isName k = true ∧ a.Ok ∧ isName f = true ∧ ∀ a ∈ args, a.Ok
  | .go h a n => h.Ok ∧ a.Ok ∧ n.Ok
def Body.Ok : Body → Prop
  | .give a => a.Ok
  | .tell a b => a.Ok ∧ b.Ok
  | .ite a b c => a.Ok ∧ b.Ok ∧ c.Ok
  | .case r b x y c => r.Ok ∧ b.Ok ∧ isName x = true ∧ isName y = true ∧ c.Ok
  | .bind x m b => isName x = true ∧ m.Ok ∧ b.Ok

/-! ### words are clean -/
def fixed : List Str := (["give", "tell", "if", "else", "case", "none", "more", "let", "be", "end", "empty", "put", "last", "call", "ask", "keep", "go", "num", "nums", "hold", "holds"] : List Str) ++ ([";", ":", "+", "-", "*", "<", "=", "def", "to", "keeper", "note", "takes", "gives", "hears"] : List Str)
theorem fixed_clean : ∀ w ∈ fixed, Clean w := by
  show ∀ w ∈ fixed, 1 ≤ w.length ∧ w.length ≤ 9 ∧ 32 ∉ w.cps.toList ∧ 10 ∉ w.cps.toList
  decide +kernel
theorem Atom.clean {a : Atom} (h : a.Ok) : Clean a.w := by
  cases a with
  | nm x => exact name_clean h
  | nu n => exact fig_clean h.1 h.2
theorem fx {w : Str} (h : w ∈ fixed) : Clean w := fixed_clean w h
theorem Kd.clean {k : Kd} (h : k.Ok) : ∀ w ∈ k.w, Clean w := by
  cases k with
  | num => intro w hw; rw [List.mem_singleton.mp hw]; exact fx (by decide +kernel)
  | nums => intro w hw; rw [List.mem_singleton.mp hw]; exact fx (by decide +kernel)
  | hold k q =>
    intro w hw
    simp only [Kd.w, List.mem_cons, List.not_mem_nil, or_false] at hw
    rcases hw with rfl | rfl | rfl
    · exact fx (by decide +kernel)
    · exact name_clean h.1
    · exact name_clean h.2
  | holds k q =>
    intro w hw
    simp only [Kd.w, List.mem_cons, List.not_mem_nil, or_false] at hw
    rcases hw with rfl | rfl | rfl
    · exact fx (by decide +kernel)
    · exact name_clean h.1
    · exact name_clean h.2
theorem args_clean {as : List Atom} (h : ∀ a ∈ as, a.Ok) : ∀ w ∈ as.map Atom.w, Clean w := fun w hw => by
  obtain ⟨a, ha, rfl⟩ := List.mem_map.mp hw
  exact Atom.clean (h a ha)
theorem signs_fixed : ∀ s ∈ signs, s ∈ fixed := by decide +kernel
theorem Made.clean {m : Made} (h : m.Ok) : ∀ w ∈ m.w, Clean w := by
  cases m with
  | same a => intro w hw; rw [List.mem_singleton.mp hw]; exact Atom.clean h
  | sum s a b =>
    intro w hw
    simp only [Made.w, List.mem_cons, List.not_mem_nil, or_false] at hw
    rcases hw with rfl | rfl | rfl
    · exact Atom.clean h.2.1
    · exact fx (signs_fixed _ h.1)
    · exact Atom.clean h.2.2
  | empty k =>
    intro w hw
    rcases List.mem_cons.mp hw with rfl | hw
    · exact fx (by decide +kernel)
    · exact Kd.clean h.1 w hw
  | put a r =>
    intro w hw
    simp only [Made.w, List.mem_cons, List.not_mem_nil, or_false] at hw
    rcases hw with rfl | rfl | rfl
    · exact fx (by decide +kernel)
    · exact Atom.clean h.1
    · exact Atom.clean h.2
  | last r a =>
    intro w hw
    simp only [Made.w, List.mem_cons, List.not_mem_nil, or_false] at hw
    rcases hw with rfl | rfl | rfl
    · exact fx (by decide +kernel)
    · exact Atom.clean h.1
    · exact Atom.clean h.2
  | call f args =>
    intro w hw
    simp only [Made.w, List.mem_cons] at hw
    rcases hw with rfl | rfl | hw
    · exact fx (by decide +kernel)
    · exact name_clean h.1
    · exact args_clean h.2 w hw
  | ask q a =>
    intro w hw
    simp only [Made.w, List.mem_cons, List.not_mem_nil, or_false] at hw
    rcases hw with rfl | rfl | rfl
    · exact fx (by decide +kernel)
    · exact name_clean h.1
    · exact Atom.clean h.2
  | keep k a f args =>
    intro w hw
    simp only [Made.w, List.mem_cons] at hw
    rcases hw with rfl | rfl | rfl | rfl | hw
    · exact fx (by decide +kernel)
    · exact name_clean h.1
    · exact Atom.clean h.2.1
    · exact name_clean h.2.2.1
    · exact args_clean h.2.2.2 w hw
  | go a b n =>
    intro w hw
    simp only [Made.w, List.mem_cons, List.not_mem_nil, or_false] at hw
    rcases hw with rfl | rfl | rfl | rfl
    · exact fx (by decide +kernel)
    · exact Atom.clean h.1
    · exact Atom.clean h.2.1
    · exact Atom.clean h.2.2
theorem Body.clean : ∀ {b : Body}, b.Ok → ∀ w ∈ b.w, Clean w
  | .give a, h, w, hw => by
    simp only [Body.w, List.mem_cons, List.not_mem_nil, or_false] at hw
    rcases hw with rfl | rfl
    · exact fx (by decide +kernel)
    · exact Atom.clean h
  | .tell a b, h, w, hw => by
    simp only [Body.w, List.mem_cons] at hw
    rcases hw with rfl | rfl | rfl | hw
    · exact fx (by decide +kernel)
    · exact Atom.clean h.1
    · exact fx (by decide +kernel)
    · exact Body.clean h.2 w hw
  | .ite a b c, h, w, hw => by
    simp only [Body.w, List.mem_cons, List.mem_append, List.not_mem_nil, or_false] at hw
    rcases hw with rfl | rfl | rfl | hw | rfl | hw | rfl
    · exact fx (by decide +kernel)
    · exact Atom.clean h.1
    · exact fx (by decide +kernel)
    · exact Body.clean h.2.1 w hw
    · exact fx (by decide +kernel)
    · exact Body.clean h.2.2 w hw
    · exact fx (by decide +kernel)
  | .case r b x y c, h, w, hw => by
    simp only [Body.w, List.mem_cons, List.mem_append, List.not_mem_nil, or_false] at hw
    rcases hw with rfl | rfl | rfl | hw | rfl | rfl | rfl | rfl | hw | rfl
    · exact fx (by decide +kernel)
    · exact Atom.clean h.1
    · exact fx (by decide +kernel)
    · exact Body.clean h.2.1 w hw
    · exact fx (by decide +kernel)
    · exact name_clean h.2.2.1
    · exact name_clean h.2.2.2.1
    · exact fx (by decide +kernel)
    · exact Body.clean h.2.2.2.2 w hw
    · exact fx (by decide +kernel)
  | .bind x m b, h, w, hw => by
    simp only [Body.w, List.mem_cons, List.mem_append] at hw
    rcases hw with rfl | rfl | rfl | hw | rfl | hw
    · exact fx (by decide +kernel)
    · exact name_clean h.1
    · exact fx (by decide +kernel)
    · exact Made.clean h.2.1 w hw
    · exact fx (by decide +kernel)
    · exact Body.clean h.2.2 w hw

/-! ### the reader's stack: ifs and cases that aren't closed, the innermost first -/
structure Frame where
  at_ : Nat
  /-- its second body begun -/
  second : Bool
  /-- of a case its names -/
  names : Option (Str × Str)
  a : Atom
  c : Body
def armH (names : Option (Str × Str)) (a : Atom) : List D := match names with | none => [.s "if", a.d] | some _ => [.s "case", a.d]
def armW : Option (Str × Str) → List Str | none => [("else" : Str)] | some (x, y) => [("more" : Str), x, y, (":" : Str)]
def armD (names : Option (Str × Str)) (a : Atom) : List D := match names with | none => [.s "if", a.d] | some (x, y) => [.s "case", a.d, .s x, .s y]
def Frame.w (f : Frame) : List Str := if f.second = true then [("end" : Str)] else armW f.names ++ (f.c.w ++ [("end" : Str)])
def framesW : List Frame → List Str
  | [] => []
  | f :: r => f.w ++ framesW r
/-- the heads when a second body begins -/
def armHs (h : List D) (f : Frame) : List D := h.set f.at_ (.t (armD f.names f.a))
def Frame.Ok (f : Frame) : Prop := f.c.Ok ∧ ∀ x y, f.names = some (x, y) → isName x = true ∧ isName y = true
/-- what an arm that isn't begun wants of the heads -/
def Frame.Fit (h : List D) (f : Frame) : Prop := h[f.at_]? = some (.t (armH f.names f.a))
/-- behind a give: the ifs and cases that end here -/
inductive After : List D → List Frame → List D → List Frame → Option Body → Prop
  | done (h : List D) : After h [] h [] none
  | up {h h' : List D} {f : Frame} {r fs : List Frame} {o : Option Body} (s : f.second = true) (n : After h r h' fs o) : After h (f :: r) h' fs o
  | on {h : List D} {f : Frame} {r : List Frame} (s : f.second = false) (fit : f.Fit h) (ok : f.Ok) : After h (f :: r) (armHs h f) ({ f with second := true } :: r) (some f.c)
/-- the heads that stand at the end, those of the body that is read being there -/
def tot : List D → List Frame → List D
  | h, [] => h
  | h, f :: r => if f.second = true then tot h r else tot (armHs h f ++ f.c.hs) r
def totO (h' : List D) (fs' : List Frame) : Option Body → List D | none => h' | some c => tot (h' ++ c.hs) fs'
theorem After.tot {h h' : List D} {fs fs' : List Frame} {o : Option Body} (a : After h fs h' fs' o) : Ak.tot h fs = totO h' fs' o := by
  induction a with
  | done => rfl
  | up s n ih => rw [Ak.tot, if_pos s]; exact ih
  | on s fit ok =>
    rw [Ak.tot, if_neg (by rw [s]; decide)]
    show _ = Ak.tot _ (_ :: _)
    rw [Ak.tot, if_pos rfl]
structure FramesOk (h : List D) (fs : List Frame) : Prop where
  lt : ∀ f ∈ fs, f.at_ < h.length
  ok : ∀ f ∈ fs, f.second = false → f.Ok ∧ f.Fit h
  pw : fs.Pairwise fun f g => g.at_ < f.at_
theorem FramesOk.nil (h : List D) : FramesOk h [] := ⟨(fun _ z => nomatch z), (fun _ z => nomatch z), List.Pairwise.nil⟩
theorem FramesOk.tail {h : List D} {f : Frame} {r : List Frame} (x : FramesOk h (f :: r)) : FramesOk h r :=
  ⟨fun g m => x.lt g (by simp [m]), fun g m => x.ok g (by simp [m]), (List.pairwise_cons.mp x.pw).2⟩
theorem FramesOk.app {h : List D} {fs : List Frame} (x : FramesOk h fs) (t : List D) : FramesOk (h ++ t) fs := by
  refine ⟨fun g m => ?_, fun g m s => ⟨(x.ok g m s).1, ?_⟩, x.pw⟩
  · rw [List.length_append]; have := x.lt g m; omega
  · show (h ++ t)[g.at_]? = _
    rw [List.getElem?_append_left (x.lt g m)]
    exact (x.ok g m s).2
theorem After.exists {h : List D} : ∀ {fs : List Frame}, FramesOk h fs → ∃ h' fs' o, After h fs h' fs' o
  | [], _ => ⟨h, [], none, .done h⟩
  | f :: r, x => by
    cases s : f.second with
    | true =>
      obtain ⟨h', fs', o, a⟩ := After.exists x.tail
      exact ⟨h', fs', o, .up s a⟩
    | false =>
      have q := x.ok f (by simp) s
      exact ⟨_, _, _, .on s q.2 q.1⟩
theorem After.frames {h h' : List D} {fs fs' : List Frame} {o : Option Body} (a : After h fs h' fs' o) (x : FramesOk h fs) : FramesOk h' fs' ∧ (∀ c, o = some c → c.Ok) ∧ h'.length = h.length ∧ fs'.length ≤ fs.length := by
  induction a with
  | done => exact ⟨x, (fun _ z => nomatch z), rfl, Nat.le_refl _⟩
  | up s n ih =>
    obtain ⟨a, b, c, d⟩ := ih x.tail
    exact ⟨a, b, c, by rw [List.length_cons]; omega⟩
  | @on f r s fit ok =>
    have pw := List.pairwise_cons.mp x.pw
    have l : (armHs h f).length = h.length := by unfold armHs; rw [List.length_set]
    refine ⟨⟨fun g m => ?_, fun g m e => ?_, List.pairwise_cons.mpr ⟨pw.1, pw.2⟩⟩, fun c e => (Option.some.inj e) ▸ ok.1, l, Nat.le_refl _⟩
    · rw [l]
      rcases List.mem_cons.mp m with rfl | m
      · exact x.lt f (by simp)
      · exact x.lt g (by simp [m])
    · rcases List.mem_cons.mp m with rfl | m
      · exact nomatch e
      · obtain ⟨o1, o2⟩ := x.ok g (by simp [m]) e
        refine ⟨o1, ?_⟩
        show (h.set f.at_ _)[g.at_]? = _
        rw [List.getElem?_set_ne (Nat.ne_of_gt (pw.1 g m))]
        exact o2
/-! ### bodies made of heads, from behind -/
/-- the piece of the head h, the last of st being the bodies already made: st0 of them are left -/
inductive Step : List D → List D → List D → D → Prop
  | give (a : Atom) (st : List D) : Step [.s "give", a.d] st st (Body.give a).d
  | tell (a : Atom) (b : D) (st : List D) : Step [.s "tell", a.d] (st ++ [b]) st (.t [.s "tell", a.d, b])
  | ite (a : Atom) (b c : D) (st : List D) : Step [.s "if", a.d] (st ++ [c] ++ [b]) st (.t [.s "if", a.d, b, c])
  | case (r : Atom) (x y : Str) (b c : D) (st : List D) : Step [.s "case", r.d, .s x, .s y] (st ++ [c] ++ [b]) st (.t [.s "case", r.d, b, .s x, .s y, c])
  | bind (x : Str) (m : Made) (b : D) (st : List D) : Step (m.hd x) (st ++ [b]) st (.t (m.hd x ++ [b]))
/-- heads gone through from behind -/
inductive Steps : List D → List D → List D → Prop
  | nil (st : List D) : Steps [] st st
  | snoc {hs : List D} {h st st1 st2 : List D} {d : D} (a : Step h st st1 d) (b : Steps hs (st1 ++ [d]) st2) : Steps (hs ++ [.t h]) st st2
theorem Steps.app {as bs st st1 st2 : List D} (a : Steps bs st st1) (b : Steps as st1 st2) : Steps (as ++ bs) st st2 := by
  induction a with
  | nil st => rw [List.append_nil]; exact b
  | snoc s r ih => rw [← List.append_assoc]; exact .snoc s (ih b)
theorem Steps.one {h st st1 : List D} {d : D} (a : Step h st st1 d) : Steps [.t h] st (st1 ++ [d]) := Steps.snoc (hs := []) a (.nil _)
theorem Body.steps : ∀ (b : Body) (st : List D), Steps b.hs st (st ++ [b.d])
  | .give a, st => Steps.one (.give a st)
  | .tell a b, st => Steps.app (as := [.t [.s "tell", a.d]]) (b.steps st) (.one (.tell a b.d st))
  | .ite a b c, st => Steps.app (as := [.t [.s "if", a.d]]) (Steps.app (c.steps st) (b.steps _)) (.one (.ite a b.d c.d st))
  | .case r b x y c, st => Steps.app (as := [.t [.s "case", r.d, .s x, .s y]]) (Steps.app (c.steps st) (b.steps _)) (.one (.case r x y b.d c.d st))
  | .bind x m b, st => Steps.app (as := [.t (m.hd x)]) (b.steps st) (.one (.bind x m b.d st))
theorem Body.hs_len : ∀ b : Body, b.hs.length ≤ b.w.length
  | .give a => by simp [Body.hs, Body.w]
  | .tell a b => by have := b.hs_len; simp [Body.hs, Body.w]; omega
  | .ite a b c => by have := b.hs_len; have := c.hs_len; simp [Body.hs, Body.w]; omega
  | .case r b x y c => by have := b.hs_len; have := c.hs_len; simp [Body.hs, Body.w]; omega
  | .bind x m b => by have := b.hs_len; simp [Body.hs, Body.w]; omega
/-! ### a body's first piece, and what is left to read behind it -/
def Body.hw : Body → List Str
  | .give a => "give" :: a.w :: []
  | .tell a _ => "tell" :: a.w :: ";" :: []
  | .ite a _ _ => "if" :: a.w :: ":" :: []
  | .case r _ _ _ _ => "case" :: r.w :: "none" :: []
  | .bind x m _ => "let" :: x :: "be" :: (m.w ++ [(";" : Str)])
def Body.tw : Body → List Str
  | .give _ => []
  | .tell _ b => b.w
  | .ite _ b c => b.w ++ (("else" : Str) :: (c.w ++ [("end" : Str)]))
  | .case _ b x y c => b.w ++ (("more" : Str) :: x :: y :: (":" : Str) :: (c.w ++ [("end" : Str)]))
  | .bind _ _ b => b.w
theorem Body.w_eq (b : Body) : b.w = b.hw ++ b.tw := by
  cases b <;> simp [Body.w, Body.hw, Body.tw]
def Body.h1 : Body → List D
  | .give a => [.s "give", a.d]
  | .tell a _ => [.s "tell", a.d]
  | .ite a _ _ => [.s "if", a.d]
  | .case r _ _ _ _ => [.s "case", r.d]
  | .bind x m _ => m.hd x
/-- the open ifs and cases behind its first piece -/
def Body.nextF (n : Nat) (fs : List Frame) : Body → List Frame
  | .ite a _ c => ⟨n, false, none, a, c⟩ :: fs
  | .case r _ x y c => ⟨n, false, some (x, y), r, c⟩ :: fs
  | _ => fs
def Body.next : Body → Option Body
  | .give _ => none
  | .tell _ b => some b
  | .ite _ b _ => some b
  | .case _ b _ _ _ => some b
  | .bind _ _ b => some b
theorem set_mid (A : List D) (x y : D) (B : List D) : (A ++ [x] ++ B).set A.length y = A ++ [y] ++ B := by
  rw [List.append_assoc, List.set_append_right _ _ (Nat.le_refl _), Nat.sub_self, List.append_assoc]
  rfl
theorem Body.next_tot {b b' : Body} (hs : List D) (fs : List Frame) (h : b.next = some b') : tot (hs ++ [.t b.h1] ++ b'.hs) (b.nextF hs.length fs) = tot (hs ++ b.hs) fs := by
  cases b with
  | give a => exact nomatch h
  | tell a b1 => cases h; simp [Body.hs, Body.h1, Body.nextF]
  | bind x m b1 => cases h; simp [Body.hs, Body.h1, Body.nextF]
  | ite a b1 c1 =>
    cases h
    show tot _ (⟨hs.length, false, none, a, c1⟩ :: fs) = _
    rw [tot, if_neg Bool.false_ne_true]
    show tot ((hs ++ [D.t [.s "if", a.d]] ++ b'.hs).set hs.length (.t [.s "if", a.d]) ++ c1.hs) fs = _
    rw [set_mid]
    simp [Body.hs]
  | case r b1 x y c1 =>
    cases h
    show tot _ (⟨hs.length, false, some (x, y), r, c1⟩ :: fs) = _
    rw [tot, if_neg Bool.false_ne_true]
    show tot ((hs ++ [D.t [.s "case", r.d]] ++ b'.hs).set hs.length (.t [.s "case", r.d, .s x, .s y]) ++ c1.hs) fs = _
    rw [set_mid]
    simp [Body.hs]
theorem Body.next_words {b b' : Body} (n : Nat) (fs : List Frame) (h : b.next = some b') : b.tw ++ framesW fs = b'.w ++ framesW (b.nextF n fs) := by
  cases b with
  | give a => exact nomatch h
  | tell a b1 => cases h; rfl
  | bind x m b1 => cases h; rfl
  | ite a b1 c1 => cases h; simp [Body.tw, Body.nextF, framesW, Frame.w, armW]
  | case r b1 x y c1 => cases h; simp [Body.tw, Body.nextF, framesW, Frame.w, armW]
theorem Body.next_ok {b b' : Body} (h : b.next = some b') (ok : b.Ok) : b'.Ok := by
  cases b with
  | give a => exact nomatch h
  | tell a b1 => cases h; exact ok.2
  | bind x m b1 => cases h; exact ok.2.2
  | ite a b1 c1 => cases h; exact ok.2.1
  | case r b1 x y c1 => cases h; exact ok.2.1
theorem Body.next_frames {b : Body} {hs : List D} {fs : List Frame} (ok : b.Ok) (x : FramesOk hs fs) : FramesOk (hs ++ [.t b.h1]) (b.nextF hs.length fs) := by
  have y := x.app [.t b.h1]
  have push : ∀ f : Frame, f.at_ = hs.length → f.Ok → D.t b.h1 = .t (armH f.names f.a) → FramesOk (hs ++ [.t b.h1]) (f :: fs) := fun f e o q => by
    refine ⟨fun g m => ?_, fun g m s => ?_, List.pairwise_cons.mpr ⟨fun g m => ?_, y.pw⟩⟩
    · rcases List.mem_cons.mp m with rfl | m
      · rw [e, List.length_append]; show _ < _ + 1; omega
      · exact y.lt g m
    · rcases List.mem_cons.mp m with rfl | m
      · refine ⟨o, ?_⟩
        show (hs ++ [D.t b.h1])[g.at_]? = _
        rw [e, List.getElem?_append_right (Nat.le_refl _), Nat.sub_self, q]; rfl
      · exact y.ok g m s
    · rw [e]; exact x.lt g m
  cases b with
  | give a => exact y
  | tell a b1 => exact y
  | bind z m b1 => exact y
  | ite a b1 c1 => exact push _ rfl ⟨ok.2.2, fun _ _ z => nomatch z⟩ rfl
  | case r b1 u v c1 => exact push _ rfl ⟨ok.2.2.2.2, fun p q z => by cases z; exact ⟨ok.2.2.1, ok.2.2.2.1⟩⟩ rfl
theorem Body.hw_len (b : Body) : 2 ≤ b.hw.length := by cases b <;> simp [Body.hw]
def Body.arm : Body → Bool | .ite _ _ _ => true | .case _ _ _ _ _ => true | _ => false
theorem Made.hd_word (x : Str) (m : Made) : ∃ w0 t, m.hd x = .s w0 :: t ∧ inV (.str w0) [V.str "if", V.str "case"] = false ∧ decide (V.str w0 = V.str "give") = false := by
  cases m <;> exact ⟨_, _, rfl, by decide +kernel, by decide +kernel⟩
theorem Body.h1_hd (b : Body) : ∃ w0 t, b.h1 = .s w0 :: t ∧ inV (.str w0) [V.str "if", V.str "case"] = b.arm ∧ decide (V.str w0 = V.str "give") = b.next.isNone := by
  cases b with
  | bind x m b1 =>
    obtain ⟨w0, t, e, a, c⟩ := Made.hd_word x m
    exact ⟨w0, t, e, a, c⟩
  | give a => exact ⟨_, _, rfl, (by decide +kernel : inV (.str "give") [V.str "if", V.str "case"] = false), (by decide +kernel : decide (V.str "give" = V.str "give") = true)⟩
  | tell a b1 => exact ⟨_, _, rfl, (by decide +kernel : inV (.str "tell") [V.str "if", V.str "case"] = false), (by decide +kernel : decide (V.str "tell" = V.str "give") = false)⟩
  | ite a b1 c1 => exact ⟨_, _, rfl, (by decide +kernel : inV (.str "if") [V.str "if", V.str "case"] = true), (by decide +kernel : decide (V.str "if" = V.str "give") = false)⟩
  | case r b1 x y c1 => exact ⟨_, _, rfl, (by decide +kernel : inV (.str "case") [V.str "if", V.str "case"] = true), (by decide +kernel : decide (V.str "case" = V.str "give") = false)⟩
theorem Body.nextF_no {b : Body} (h : b.arm = false) (n : Nat) (fs : List Frame) : b.nextF n fs = fs := by
  cases b <;> first | rfl | exact nomatch h
theorem Body.nextF_yes {b : Body} (h : b.arm = true) (n : Nat) (fs : List Frame) : ∃ f : Frame, b.nextF n fs = f :: fs ∧ f.at_ = n ∧ f.second = false := by
  cases b <;> first | exact ⟨_, rfl, rfl, rfl⟩ | exact nomatch h
theorem Body.give_hs {b : Body} (h : b.next = none) : b.hs = [.t b.h1] ∧ b.tw = [] ∧ b.arm = false := by
  cases b <;> first | exact ⟨rfl, rfl, rfl⟩ | exact nomatch h
end Ak
/-! zip of three lists, as a loop or a comprehension goes through it -/
namespace Ak
open PySem L2 PySem.Spec PyProof.Rows
/-- the three lists as they stand at each turn; what is handed out is a new tuple -/
def Itz3 (K : PySem.W.Frag) (a b c : Addr) : It :=
  ⟨fun i H => ∃ (xs ys zs : List V) (x y u : V), (SqL K H a xs ∧ SqL K H b ys ∧ SqL K H c zs) ∧ xs[i]? = some x ∧ ys[i]? = some y ∧ zs[i]? = some u,
    fun i H v H' => ∃ T x y u, v = .ref T ∧ H T = none ∧ H' = upd H T (.tup [x, y, u]) ∧ (∀ xs, SqL K H a xs → xs[i]? = some x) ∧ (∀ ys, SqL K H b ys → ys[i]? = some y) ∧ ∀ zs, SqL K H c zs → zs[i]? = some u,
    fun i H => ∃ xs ys zs : List V, (SqL K H a xs ∧ SqL K H b ys ∧ SqL K H c zs) ∧ (i ≤ xs.length ∧ i ≤ ys.length ∧ i ≤ zs.length) ∧ (i = xs.length ∨ i = ys.length ∨ i = zs.length)⟩
theorem turn_zip3 {P : Program} {w : World} {K : PySem.W.Frag} {elts : List Expr} {kk : Nat} {tpos : Pos} {a b c z TI TO i1 i2 i3 : Addr} (D : ZipSep3 z TI TO i1 i2 i3 [i1, a] [i2, b] [i3, c]) :
    Turn P w K (.Tuple elts kk tpos) (Itz3 K a b c) [z, TI, TO, i1, i2, i3] z
      (fun i h => IsZip h z TI TO .none ∧ IsTupOf3 h TI (.ref i1) (.ref i2) (.ref i3) ∧ (∃ x y u, IsTupOf3 h TO x y u) ∧ h.IsListIter i1 a i ∧ h.IsListIter i2 b i ∧ h.IsListIter i3 c i) where
  mem := by simp
  obj := fun i h st d hd => by
    obtain ⟨hz, hTI, ⟨x, y, u, hTO⟩, ⟨o1, e1, _, d1⟩, ⟨o2, e2, _, d2⟩, ⟨o3, e3, _, d3⟩⟩ := st
    have e' : d = z ∨ d = TI ∨ d = TO ∨ d = i1 ∨ d = i2 ∨ d = i3 := by simpa using hd
    rcases e' with q | q | q | q | q | q
    · subst q; exact ⟨_, hz, fun v q => nomatch q⟩
    · subst q; exact ⟨_, hTI, fun v q => nomatch q⟩
    · subst q; exact ⟨_, hTO, fun v q => nomatch q⟩
    · subst q; exact ⟨o1, e1, fun v q => by rw [d1] at q; cases q⟩
    · subst q; exact ⟨o2, e2, fun v q => by rw [d2] at q; cases q⟩
    · subst q; exact ⟨o3, e3, fun v q => by rw [d3] at q; cases q⟩
  keep := fun i h h' st k => by
    obtain ⟨hz, hTI, ⟨x, y, u, hTO⟩, h1, h2, h3⟩ := st
    exact ⟨k z (by simp) _ hz, k TI (by simp) _ hTI, ⟨x, y, u, k TO (by simp) _ hTO⟩, h1.at fun o q => k i1 (by simp) o q, h2.at fun o q => k i2 (by simp) o q, h3.at fun o q => k i3 (by simp) o q⟩
  item := by
    intro X hP hw hK hc i pins s σ H E I hfp st hg
    subst hP hw hK
    obtain ⟨hz, hTI, ⟨x0, y0, u0, hTO⟩, h1, h2, h3⟩ := st
    obtain ⟨xs, ys, zs, x, y, u, ⟨hqx, hqy, hqz⟩, hx, hy, hu⟩ := hg
    obtain ⟨ua, wa, p, _⟩ := I.list hqx
    obtain ⟨ub, wb, p2, _⟩ := I.list hqy
    obtain ⟨uc, wc, p3, _⟩ := I.list hqz
    obtain ⟨v1, hv1, r1⟩ := wa.get hx
    obtain ⟨v2, hv2, r2⟩ := wb.get hy
    obtain ⟨v3, hv3, r3⟩ := wc.get hu
    have zlt : z < s.heap.objs.size := Heap.lt_size hz
    have hh : X.A.in1.handled = none := I.ok.hd hc
    have n1 : a ≠ i1 := fun e => by
      obtain ⟨o, ho, _, hd⟩ := h1
      obtain ⟨o', ho', _, hd'⟩ := p.isList
      rw [← e, ho'] at ho
      have := (Option.some.inj ho)
      subst this
      simp_all
    have n2 : b ≠ i2 := fun e => by
      obtain ⟨o, ho, _, hd⟩ := h2
      obtain ⟨o', ho', _, hd'⟩ := p2.isList
      rw [← e, ho'] at ho
      have := (Option.some.inj ho)
      subst this
      simp_all
    have n3 : c ≠ i3 := fun e => by
      obtain ⟨o, ho, _, hd⟩ := h3
      obtain ⟨o', ho', _, hd'⟩ := p3.isList
      rw [← e, ho'] at ho
      have := (Option.some.inj ho)
      subst this
      simp_all
    have l1 : i < ua.toArray.size := by have := (List.getElem?_eq_some_iff.mp hv1).1; simpa using this
    have l2 : i < ub.toArray.size := by have := (List.getElem?_eq_some_iff.mp hv2).1; simpa using this
    have l3 : i < uc.toArray.size := by have := (List.getElem?_eq_some_iff.mp hv3).1; simpa using this
    refine wpAny_pyNext_zipD3_item D (Draws.list hh i1 a n1 ua.toArray) (Draws.list hh i2 b n2 ub.toArray) (Draws.list hh i3 c n3 uc.toArray) hz hTI hTO ⟨h1, p.isList⟩ ⟨h2, p2.isList⟩ ⟨h3, p3.isList⟩ l1 l2 l3
      fun x1 x2 x3 h' tk y1 y2 y3 z' TOk st1 st2 st3 hNew hsz hk => ?_
    have q1 : v1 = x1 := Option.some.inj (hv1.symm.trans (by simpa using y1))
    have q2 : v2 = x2 := Option.some.inj (hv2.symm.trans (by simpa using y2))
    have q3 : v3 = x3 := Option.some.inj (hv3.symm.trans (by simpa using y3))
    subst q1 q2 q3
    refine ⟨_, rfl, wpAny_letOwnedTupleGo_zip (s := { s with heap := h', toks := tk }) z' fun h'' z'' sub => ?_⟩
    have hNew2 : h''.get? s.heap.objs.size = some { cls := .type "tuple", data := .seq #[v1, v2, v3] } := (sub.2 _ (Nat.ne_of_gt zlt)).trans hNew
    have new : ObjOk X.prog X.w (upd H s.heap.objs.size (.tup [x, y, u])) h'' s.heap.objs.size (.tup [x, y, u]) :=
      ⟨by show 3 ≤ sizeLine; decide, [v1, v2, v3], .cons r1 (.cons r2 (.cons r3 .nil)), ⟨_, hNew2, rfl, _, rfl⟩⟩
    have I1 : Inv X pins σ (upd H s.heap.objs.size (.tup [x, y, u])) { s with heap := h'', toks := tk } :=
      I.turnedNew (t' := tk) (ch := [z, TI, TO, i1, i2, i3]) (fun d o hb q => (sub.2 d (fun q' => hb (by simp [q']))).trans (hk d o (fun q' => hb (by simp [q'])) (fun q' => hb (by simp [q'])) (fun q' => hb (by simp [q'])) (fun q' => hb (by simp [q'])) (fun q' => hb (by simp [q'])) q)) hfp (Nat.le_refl _) new
    refine ⟨.ref s.heap.objs.size, _, I1, rfl, ⟨_, x, y, u, rfl, I.hok.fresh (Nat.le_refl _), rfl, fun l hl => by rw [I.list_inj hl hqx]; exact hx, fun l hl => by rw [I.list_inj hl hqy]; exact hy, fun l hl => by rw [I.list_inj hl hqz]; exact hu⟩,
      ⟨z'', ?_, ⟨v1, v2, v3, ?_⟩, ?_, ?_, ?_⟩, fun d hdm => ?_⟩
    · exact (sub.2 _ D.TIz).trans (hk _ _ D.TIz D.TITO D.TIi1 D.TIi2 D.TIi3 hTI)
    · exact (sub.2 _ D.TOz).trans TOk
    · exact st1.1.at fun o q => (sub.2 _ (Ne.symm D.zi1)).trans q
    · exact st2.1.at fun o q => (sub.2 _ (Ne.symm D.zi2)).trans q
    · exact st3.1.at fun o q => (sub.2 _ (Ne.symm D.zi3)).trans q
    · have dlt : d < s.heap.objs.size := by
        have e' : d = z ∨ d = TI ∨ d = TO ∨ d = i1 ∨ d = i2 ∨ d = i3 := by simpa using hdm
        rcases e' with q | q | q | q | q | q
        · subst q; exact zlt
        · subst q; exact Heap.lt_size hTI
        · subst q; exact Heap.lt_size hTO
        · subst q; obtain ⟨_, e1, _⟩ := h1; exact Heap.lt_size e1
        · subst q; obtain ⟨_, e2, _⟩ := h2; exact Heap.lt_size e2
        · subst q; obtain ⟨_, e3, _⟩ := h3; exact Heap.lt_size e3
      rw [upd_ne (Nat.ne_of_lt dlt)]
      exact (hfp d hdm).1
  done := by
    intro X hP hw hK hc i pins s σ H E I hfp st hg
    subst hP hw hK
    obtain ⟨hz, hTI, ⟨x0, y0, u0, hTO⟩, h1, h2, h3⟩ := st
    obtain ⟨xs, ys, zs, ⟨hqx, hqy, hqz⟩, ⟨g1, g2, g3⟩, hend⟩ := hg
    obtain ⟨ua, wa, p, _⟩ := I.list hqx
    obtain ⟨ub, wb, p2, _⟩ := I.list hqy
    obtain ⟨uc, wc, p3, _⟩ := I.list hqz
    have l1 := wa.length
    have l2 := wb.length
    have l3 := wc.length
    have hh : X.A.in1.handled = none := I.ok.hd hc
    have n1 : a ≠ i1 := fun e => by
      obtain ⟨o, ho, _, hd⟩ := h1
      obtain ⟨o', ho', _, hd'⟩ := p.isList
      rw [← e, ho'] at ho
      have := (Option.some.inj ho)
      subst this
      simp_all
    have n2 : b ≠ i2 := fun e => by
      obtain ⟨o, ho, _, hd⟩ := h2
      obtain ⟨o', ho', _, hd'⟩ := p2.isList
      rw [← e, ho'] at ho
      have := (Option.some.inj ho)
      subst this
      simp_all
    have n3 : c ≠ i3 := fun e => by
      obtain ⟨o, ho, _, hd⟩ := h3
      obtain ⟨o', ho', _, hd'⟩ := p3.isList
      rw [← e, ho'] at ho
      have := (Option.some.inj ho)
      subst this
      simp_all
    have s1 : ua.toArray.size = ua.length := by simp
    have s2 : ub.toArray.size = ub.length := by simp
    have s3 : uc.toArray.size = uc.length := by simp
    exact wpAny_pyNext_zipD3_end D (Draws.list hh i1 a n1 ua.toArray) (Draws.list hh i2 b n2 ub.toArray) (Draws.list hh i3 c n3 uc.toArray) hz hTI hTO ⟨h1, p.isList⟩ ⟨h2, p2.isList⟩ ⟨h3, p3.isList⟩
      (by omega) (by omega) (by omega) (by omega) fun h' tk hk => ⟨rfl, I.turnedL (t' := tk) (ch := [z, TI, TO, i1, i2, i3]) (fun d o hb q =>
      hk d o (fun q' => hb (by simp [q'])) (fun q' => hb (by simp [q'])) (fun q' => hb (by simp [q'])) (fun q' => hb (by simp [q'])) (fun q' => hb (by simp [q'])) q) hfp⟩
  self := fun _ _ _ _ _ st => wpAny_pyIter_zip st.1
def iZip3 (K : PySem.W.Frag) (ta : TA) : TI := fun σ H R => ta σ H fun vs H1 => ∃ a b c xs ys zs, vs = [.ref a, .ref b, .ref c] ∧ (SqL K H1 a xs ∧ SqL K H1 b ys ∧ SqL K H1 c zs) ∧ R (Itz3 K a b c) H1
theorem pi_zip3 {X : Cx} {e e2 e3 : Expr} {ta : TA} {p pos tpos : Pos} {elts : List Expr} {kk : Nat} (hg : Gl X "zip") (hm : X.mg "zip" = none) (ha : PA X [e, e2, e3] ta)
    (hs : starEach [e, e2, e3] X.env = (false, eval e X.env) :: starEach [e2, e3] X.env := by rfl) (hpl : (backTo pos (starEach [e2, e3] X.env)).any (·.1) = false := by rfl) :
    PI X (.Tuple elts kk tpos) (.Call (.Name "zip" p) [e, e2, e3] [] pos) (iZip3 X.K ta) := by
  refine ⟨fun pins s σ H Want I h => ?_⟩
  refine Call_ (ld_blt I hg hm PyProof.Rows.boot_zip (PyProof.Rows.callWith_type1 (thn (ha.run pos pins s σ H _ I h) fun _ s1 ⟨vs, H1, I1, r1, q1⟩ => ?_) hs hpl))
  obtain ⟨a, b, c, xs, ys, zs, ex, ⟨hqx, hqy, hqz⟩, q⟩ := q1
  subst ex
  cases r1 with
  | cons r rr =>
    cases rr with
    | cons r' rr =>
      cases rr with
      | cons r'' rr =>
        cases rr
        cases r
        cases r'
        cases r''
        obtain ⟨ua, wa, p1, _⟩ := I1.list hqx
        obtain ⟨ub, wb, p2, _⟩ := I1.list hqy
        obtain ⟨uc, wc, p3, _⟩ := I1.list hqz
        have sza : a < s1.heap.objs.size := p1.lt
        have szb : b < s1.heap.objs.size := p2.lt
        have szc : c < s1.heap.objs.size := p3.lt
        refine zip_begins3 (begins_list a _) (begins_list b _) (begins_list c _) p1.isList p2.isList p3.isList fun h' hz hTI hTO h1 h2 h3 hsz hk => wpAny_pyIter_zip hz ?_
        have Iz : Inv X pins σ H1 { s1 with heap := h' } := I1.kept (t' := s1.toks) hk
        refine ⟨s1.heap.objs.size + 5, [s1.heap.objs.size + 5, s1.heap.objs.size + 3, s1.heap.objs.size + 4, s1.heap.objs.size, s1.heap.objs.size + 1, s1.heap.objs.size + 2], _, _, H1, rfl, Iz,
          turn_zip3 (zip_sep3 (fp1 := [a]) (fp2 := [b]) (fp3 := [c]) (by simpa using sza) (by simpa using szb) (by simpa using szc)), ⟨hz, hTI, ⟨_, _, _, hTO⟩, ⟨_, h1, rfl, rfl⟩, ⟨_, h2, rfl, rfl⟩, ⟨_, h3, rfl, rfl⟩⟩, fun d hdm => ?_, q⟩
        have e' : d = s1.heap.objs.size + 5 ∨ d = s1.heap.objs.size + 3 ∨ d = s1.heap.objs.size + 4 ∨ d = s1.heap.objs.size ∨ d = s1.heap.objs.size + 1 ∨ d = s1.heap.objs.size + 2 := by simpa using hdm
        have hge : s1.heap.objs.size ≤ d := by
          rcases e' with z | z | z | z | z | z <;> (subst z; simp)
        exact I1.fpOk hge (I1.hok.fresh hge)
end Ak
/-! errors of own classes with fields: isinstance of such a one, a def that tells or raises -/
namespace Ak
open PySem PySem.Spec PyProof.Rows L2
/-- isinstance(e, c), e the exception that the suite holds (its class D, its dict d) -/
def rIsD (K : PySem.W.Frag) (D a : Addr) (d : Option Addr) : List V → Hp → VK → Prop := fun xs H Q => ∃ (c : V) (cv : Value) (b : Bool) (dd : Addr) (fs : List (Str × V)), xs = [.ref a, c] ∧ (∀ u, RelV c u → u = cv) ∧ PySem.W.kitOne K (.ref D) cv = some b ∧
  d = some dd ∧ H dd = some (.xd fs) ∧ Q (.bl b) H
theorem call_isD {X : Cx} {a D : Addr} {d : Option Addr} {oe : Obj} {pn : List (Addr × Obj)} (C : ExcC X.K D) (hz : Zc (.ref D) d oe) (hf : ∃ vs, oe.data = .fields vs) : CallR (X.suite a ((a, oe) :: pn)) (.builtin "isinstance") (rIsD X.K D a d) := by
  intro pins s σ H xs us Q I r h
  obtain ⟨c, cv, b, dd, fs, rfl, hcv, e, rfl, hd, q⟩ := h
  cases r with
  | cons r1 rr =>
    cases rr with
    | cons r2 rr =>
      cases rr
      cases r1
      have ec := hcv _ r2
      subst ec
      have pin := (I.pin (a, oe) (List.mem_append_left _ List.mem_cons_self)).1
      obtain ⟨vs, hv⟩ := hf
      have ob : ObjOk X.prog X.w H s.heap dd (.xd fs) := I.hok dd _ hd
      obtain ⟨mA, hns, _⟩ := ob
      obtain ⟨od, ho, _⟩ := lookIn_ns hns
      have J : PySem.W.InstAt s.heap a oe D (some od) := ⟨pin, hz.1, by unfold PySem.W.notCls; rw [hv] <;> rfl, by rw [hz.2]; exact ho⟩
      obtain ⟨cd, hc, _⟩ := PySem.W.any_some C.hd
      exact PySem.W.kia_one (PySem.W.kitx_exc (by rw [hc]; rfl) C.hg C.hk C.hs C.ha C.hn C.ht C.hm) I.kIn J e (fun z => nomatch z) fun tk => ⟨.bl b, H, I.kept (t' := tk) fun _ _ z => z, rfl, q⟩
section
variable {P : Program} {w : World} {K : PySem.W.Frag} {mg : Str → Option Value} {base : Heap} {CX : CXT} {k : Nat} {f : Addr} {fd : FuncData} {ps : List Str} {sp sp' : Sp}
theorem FnOk.lift (F : FnOk P w K mg base CX0 k f fd ps sp) : FnOk P w K mg base CX k f fd ps sp :=
  ⟨F.len, fun A outer s H args us vs Q E hr he hb hv hs => by
    refine codeAny_mono (F.run A outer s H args us vs Q E hr he hb hv hs) fun r s' h => ?_
    cases r with
    | ok v => cases v <;> exact h
    | error e => exact h.elim⟩
theorem FnOk.or (F : FnOk P w K mg base CX k f fd ps sp) (G : FnOk P w K mg base CX k f fd ps sp') : FnOk P w K mg base CX k f fd ps (fun vs H Q E => sp vs H Q E ∨ sp' vs H Q E) :=
  ⟨fun vs H Q E q => q.elim (F.len vs H Q E) (G.len vs H Q E), fun A outer s H args us vs Q E hr he hb hv hs => hs.elim (F.run A outer s H args us vs Q E hr he hb hv) (G.run A outer s H args us vs Q E hr he hb hv)⟩
/-- of several defs that a slot may hold, each of which may raise -/
structure HeldX (P : Program) (w : World) (K : PySem.W.Frag) (mg : Str → Option Value) (base : Heap) (CX : CXT) (k : Nat) (f : Addr) (sp : Sp) : Prop where
  ex : ∃ (fd : FuncData) (ps : List Str), FnOk P w K mg base CX k f fd ps sp ∧ PySem.W.keepIn K (.ref f) = true ∧ Binds K fd ps []
def tCallAX (i : Nat) (S : Addr → Option Sp) (E : XK) (t : TA) : TE := fun σ H Q => ∃ f sp, σ[i]? = some (some (.ref f)) ∧ S f = some sp ∧ t σ H fun vs H1 => sp vs H1 Q E
theorem pe_callAX {X : Cx} {CX : CXT} {k i : Nat} {E : XK} {x : Str} {p pos : Pos} {e : Expr} {es : List Expr} {t : TA} {S : Addr → Option Sp} (A : ∀ f sp, S f = some sp → HeldX X.prog X.w X.K X.mg X.base CX k f sp) (hr : Room k X.A) (hN : X.N[i]? = some x) (hv : Vis X.env.scope x) (hx : Passes CX X E) (ha : PA X (e :: es) t)
    (hdb : (x == ("__debug__" : Str)) = false := by decide) (hcd : (x == ("__classdict__" : Str)) = false := by decide)
    (he : starEach (e :: es) X.env = (false, eval e X.env) :: starEach es X.env := by rfl) (hpl : (backTo pos (starEach es X.env)).any (·.1) = false := by rfl) : PE X (.Call (.Name x p) (e :: es) [] pos) (tCallAX i S E t) := by
  refine ⟨fun pins s σ H Q I h => ?_⟩
  obtain ⟨f, sp, hs, hS, ht⟩ := h
  obtain ⟨fd, ps, F, hk, hb⟩ := (A f sp hS).ex
  refine (pe_callL (i := i) (f := f) (sp := sp) (dvs := []) (E := E) F hr hN hv hk hb .nil hx ha hdb hcd he hpl).run pins s σ H Q I ⟨hs, ?_⟩
  have e0 : (fun (vs : List V) (H1 : Hp) => sp (vs ++ []) H1 Q E) = fun vs H1 => sp vs H1 Q E := by
    funext vs H1
    rw [List.append_nil]
  show t σ H (fun vs H1 => sp (vs ++ []) H1 Q E)
  rw [e0]
  exact ht
end
end Ak
/-! rules of our own: n not in range(k); del xs[a:]; xs[i] += e -/
namespace Ak
open PySem PySem.Spec PyProof.Rows L2
section
variable {X : Cx}
theorem cr_range1 : CallR X (.type "range") (fun vs H Q => ∃ j, vs = [V.int j] ∧ ∀ p, H p = none → Q (.ref p) (upd H p (.rng 0 j))) := by
  intro pins s σ H vs us Q I r h
  obtain ⟨j, rfl, q⟩ := h
  cases r with
  | cons r1 rr =>
    cases rr
    obtain ⟨u, rfl⟩ := r1
    refine call_range_1 ⟨.ref s.heap.objs.size, upd H s.heap.objs.size (.rng 0 j), I.laid (t' := s.toks + 1 + 1) (fun b o e => Heap.get?_push_of_some _ e) (Nat.le_refl _) ?_, rfl, q _ (I.hok.fresh (Nat.le_refl _))⟩
    exact ⟨s.toks, u, s.toks + 1, Heap.get?_push_size _ rfl⟩
def rNotInRng : R2 := fun x y H Q => ∃ i a lo hi, x = V.int i ∧ y = V.ref a ∧ H a = some (.rng lo hi) ∧ Q (.bl (!decide (lo ≤ i ∧ i < hi))) H
theorem op_notIn_rng : OpR X (compareOp .NotIn) rNotInRng := by
  intro pins s σ H x y v u Q I rx ry h
  obtain ⟨i, a, lo, hi, rfl, rfl, ha, q⟩ := h
  obtain ⟨k, rfl⟩ := rx
  obtain rfl : u = Value.ref a := ry
  obtain ⟨t1, t2, t3, ho⟩ := I.hok a _ ha
  show wpAny _ _ (do return Value.bool !(← contains (Value.ref a) (Value.int i k))) _ _ s
  refine wpAny_bind (wpAny_contains_slot (T := "range") ⟨_, ho, rfl⟩ F.slot_range_contains (call_meets F.slot_range_contains ⟨_, ho, rfl⟩ F.entry_range_contains (F.args_range_contains_2 _ _) (q_contains a lo hi i t1 t2 t3 k)
    ⟨ho, wpAny_truthy_bool (wpAny_pure ⟨.bl _, H, I, rfl, ?_⟩)⟩))
  rw [place1]
  exact q
/-- xs == [], xs != [], whatever xs holds -/
def rEqNil (K : PySem.W.Frag) (neg : Bool) : R2 := fun x y H Q => ∃ a b xs, x = V.ref a ∧ y = V.ref b ∧ SqL K H a xs ∧ SqL K H b [] ∧ Q (.bl (if neg then !xs.isEmpty else xs.isEmpty)) H
theorem op_eqNil (hu : X.A.units + 64 < cLine) : OpR X (compareOp .Eq) (rEqNil X.K false) := by
  intro pins s σ H x y v u Q I rx ry h
  obtain ⟨a, b, xs, rfl, rfl, hx, hy, q⟩ := h
  cases rx
  cases ry
  obtain ⟨us, r1, p1, _⟩ := I.list hx
  obtain ⟨ws, r2, p2, _⟩ := I.list hy
  cases r2
  cases r1 with
  | nil => exact SeqAt.eq_listAt (e := fun _ => true) p1.isList p2.isList rfl (by omega) (fun j h1 _ => absurd h1 (Nat.not_lt_zero j)) ⟨.bl _, H, I, rfl, q⟩
  | cons _ _ => exact SeqAt.eq_list_lengthsAt p1.isList p2.isList (by simp) (by omega) ⟨.bl _, H, I, rfl, q⟩
theorem op_neNil (hu : X.A.units + 64 < cLine) : OpR X (compareOp .NotEq) (rEqNil X.K true) := by
  intro pins s σ H x y v u Q I rx ry h
  obtain ⟨a, b, xs, rfl, rfl, hx, hy, q⟩ := h
  cases rx
  cases ry
  obtain ⟨us, r1, p1, _⟩ := I.list hx
  obtain ⟨ws, r2, p2, _⟩ := I.list hy
  cases r2
  cases r1 with
  | nil => exact SeqAt.RcNeAt.lists (e := fun _ => true) p1.isList p2.isList rfl (by omega) (fun j h1 _ => absurd h1 (Nat.not_lt_zero j)) _ _ _ _ ⟨.bl _, H, I, rfl, q⟩
  | cons _ _ => exact SeqAt.RcNeAt.lists_lengths p1.isList p2.isList (by simp) (by omega) _ _ _ _ ⟨.bl _, H, I, rfl, q⟩
/-- xs[i] op= e: the read -/
theorem pget_list : PGet X (rIxL X.K) := by
  intro pins s σ H x y v u Q I rx ry h
  obtain ⟨p, xs, i, z, rfl, rfl, hq, he, q⟩ := h
  cases rx
  obtain ⟨t, rfl⟩ := ry
  obtain ⟨its, r, pl, hz⟩ := I.list hq
  obtain ⟨j, h1, h2, h3, h4, h5⟩ := atI_get he
  obtain ⟨w, ew, rw'⟩ := r.get h2
  have hl := r.length
  have hn := line63
  have fin : EP X pins σ Q w s := ⟨z, H, I, rw', q⟩
  by_cases h0 : 0 ≤ i
  · have hj : i.toNat = j := by
      rw [seqIndex_of h0 h5] at h1
      exact Option.some.inj h1
    exact wpAny_getItem_list pl.isList h0 (by omega) (by rw [hj]; simpa using ew) fin
  · have hj : (i + (its.toArray.size : Int)).toNat = j := by
      rw [seqIndex_neg (by omega) h4] at h1
      rw [List.size_toArray, ← hl]
      exact Option.some.inj h1
    exact wpAny_getItem_list_neg pl.isList (by omega) (by rw [List.size_toArray] <;> omega) (by omega) (by rw [hj]; simpa using ew) fin
end
section
def mySel (start stop step : Int) (i : Nat) : Bool :=
  if step > 0 then start ≤ i && i < stop && (i - start) % step == 0
  else stop < i && i ≤ start && (start - i) % (-step) == 0
def cutF (a b : Int) : Array Value → Array Value := fun xs => (xs.toList.zipIdx.filterMap fun (x, k) => if mySel a b 1 k then none else some x).toArray
theorem cut_ix {α : Type} : ∀ (l : List α) (k a n : Nat), k + l.length = n → (l.zipIdx k).filterMap (fun p => if mySel (a : Int) (n : Int) 1 p.2 then none else some p.1) = l.take (a - k)
  | [], k, a, n, _ => by simp
  | x :: l, k, a, n, h => by
    rw [List.zipIdx_cons, List.filterMap_cons]
    have ih := cut_ix l (k + 1) a n (by rw [List.length_cons] at h; omega)
    rw [List.length_cons] at h
    by_cases g : a ≤ k
    · have e : mySel (a : Int) (n : Int) 1 k = true := by
        unfold mySel
        rw [if_pos (by decide)]
        simp only [Bool.and_eq_true, decide_eq_true_eq, beq_iff_eq]
        exact ⟨⟨by omega, by omega⟩, Int.emod_one _⟩
      simp only [e, if_true]
      rw [ih, show a - (k + 1) = 0 by omega, show a - k = 0 by omega, List.take_zero, List.take_zero]
    · have e : mySel (a : Int) (n : Int) 1 k = false := by
        unfold mySel
        rw [if_pos (by decide)]
        have : decide ((a : Int) ≤ (k : Int)) = false := decide_eq_false (by omega)
        rw [this]; rfl
      simp only [e, Bool.false_eq_true, if_false]
      rw [ih, show a - k = (a - (k + 1)) + 1 by omega, List.take_succ_cons]
theorem bounds_from {a n : Nat} (ha : a ≤ n) : sliceBounds (some (a : Int)) none none n = ((a : Int), (n : Int), 1) := by
  simp only [sliceBounds, Option.getD_none]
  have p1 : ¬ ((a : Int) < 0) := by omega
  simp only [p1, if_false, show (1 : Int) > 0 by decide, if_true]
  congr 1
  omega
variable {prog : Program} {w : World} {A : Around} {E : Value → Shared → Prop} {s : Shared}
theorem del_cut {l sl : Addr} {xs0 : Array Value} {n : Nat} {vl : Value} {a : Nat} {Q : Unit → Shared → Prop}
    (e : s.heap.get? l = some { cls := .type "list", data := .seq xs0 n })
    (hs : s.heap.IsSliceOf sl vl .none .none) (pl : IsPart vl (some (a : Int))) (ha : a ≤ xs0.size) (hsz : xs0.size ≤ sizeLine)
    (h : Q () { s with heap := s.heap.update l (Obj.mapSeq (cutF (a : Int) (xs0.size : Int))) }) :
    wpAny (model prog w) A (delItem (.ref l) (.ref sl)) Q E s := by
  have hl : s.heap.IsList l xs0 := PySem.IsL.isList e
  obtain ⟨os, hos, hcs, hds⟩ := id hs
  have hT : s.TypeIs (.ref sl) "slice" := ⟨os, hos, hcs⟩
  have h0 : ¬ ((rawPart none == rawInt 0) = true) := Bool.false_ne_true
  have hz2 : (cutF (a : Int) (xs0.size : Int) xs0).size ≤ sizeLine + 1 := by
    have q : (cutF (a : Int) (xs0.size : Int) xs0) = (xs0.toList.take (a - 0)).toArray := by
      unfold cutF
      exact congrArg List.toArray (cut_ix xs0.toList 0 a xs0.size (by simp))
    rw [q, List.size_toArray, List.length_take, Array.length_toList]
    omega
  refine wpAny_delItem_slot hl.typeIs (by decide) F.slot_list_delitem (wpAny_call_entry F.slot_list_delitem hl.typeIs F.entry_list_delitem ?_ (F.args_list_delitem_2 _ _))
  show wpAny _ _ (Builtin.List.listSubscript? (.ref sl) >>= _) _ _ s
  refine wpAny_bind (by
    unfold Builtin.List.listSubscript?
    refine wpAny_bind (wpAny_specialOf hT slice_no_index ?_)
    simp only [Option.isNone_none, if_true]
    refine wpAny_pure ?_
    show wpAny _ _ (typeOf (.ref sl) >>= _) _ _ s
    refine wpAny_bind (wpAny_typeOf hT ?_)
    first | rw [if_neg (by decide)] | refine PySem.W.KFB.if_not (by decide) ?_
    rw [listSliceParts_eq]
    refine wpAny_bind (wpAny_bind (wpAny_field hos hds (x := .none) rfl (wpAny_bind (wpAny_listPart .none ?_))))
    rw [if_neg h0]
    refine wpAny_bind (wpAny_field hos hds (x := vl) rfl (wpAny_bind (wpAny_listPart pl (wpAny_bind (wpAny_field hos hds (x := .none) rfl (wpAny_bind (wpAny_listPart .none (wpAny_pure ?_))))))))
    refine wpAny_bind (m := Builtin.List.listItems (.ref l)) (by
      unfold Builtin.List.listItems
      refine wpAny_bind (wpAny_seqItems e rfl (wpAny_pure ?_))
      refine wpAny_bind (wpAny_of_eq ((sliceIndices_raw (some (a : Int)) none none xs0.size (by simp)).trans (congrArg (pure : Int × Int × Int → Sem (Int × Int × Int)) (bounds_from ha))) ?_)
      refine wpAny_bind (wpAny_rule ?_)
      show wpAny _ _ (updateSeq l (cutF (a : Int) (xs0.size : Int)) >>= _) _ _ s
      refine wpAny_bind (wpAny_updateSeq (hz := hsz) (_hz' := hz2) e rfl (wpAny_bind (wpAny_letGo ?_)))
      exact wpAny_pure ⟨.none, rfl, h⟩))
/-- del o[a:] -/
def tDelSlc (to tl : TE) : TS := fun D σ H => to σ H fun x H1 => tl σ H1 fun y H2 => ∃ (l : Addr) (xs : List V) (a : Nat), x = .ref l ∧ y = .int (a : Int) ∧ H2 l = some (.lst xs) ∧ a ≤ xs.length ∧ D.nx σ (upd H2 l (.lst (xs.take a)))
theorem ps_delSlc {X : Cx} {o lo : Expr} {p2 pos tpos : Pos} {to tl : TE} (ho : PE X o to) (hl : PE X lo tl) : PS X (.Delete [.Subscript o (.Slice (some lo) none none p2) tpos] pos) (tDelSlc to tl) := by
  refine ⟨fun pins s σ H D I h => ?_⟩
  refine wpAny_Delete (wpAny_deleteEach_cons (wpAny_delete_Subscript (thn (ho.run pins s σ H _ I h) fun u s1 ⟨x, H1, I1, rx, q1⟩ => wpAny_Slice ?_)))
  refine thn (hl.run pins s1 σ H1 _ I1 q1) fun vl s2 ⟨y, H2, I2, ry, q2⟩ => ?_
  obtain ⟨l, xs, a, rfl, rfl, hx, ha, q⟩ := q2
  rw [evalPart_none]
  refine wpAny_pure ?_
  refine wpAny_pure ?_
  have I4 : Inv X pins σ H2 { s2 with heap := s2.heap.push { cls := .type "slice", data := .fields #[vl, .none, .none] } } := I2.kept (t' := s2.toks) fun b ob q => Heap.get?_push_of_some _ q
  cases rx
  obtain ⟨t, rfl⟩ := (show ∃ t, vl = Value.int (a : Int) t from ry)
  obtain ⟨z, its, n, rr, hl1, e⟩ := I4.lstM hx
  have lx := rr.length
  refine del_cut (a := a) e (Heap.IsSliceOf.new ..) (.int _ _) (by rw [List.size_toArray]; omega) (by rw [List.size_toArray]; omega) ?_
  refine wpAny_deleteEach_nil ⟨σ, _, I4.lset (its' := its.take a) (t' := s2.toks) hx e ?_ (rr.take _) (by rw [List.length_take]; omega), q⟩
  unfold cutF
  have := cut_ix its 0 a its.length (by simp)
  rw [List.size_toArray]
  exact congrArg List.toArray this
end
end Ak
/-! repr of data, where nothing is being shown as yet; a law whose own body asks for it -/
namespace Ak
open PySem PySem.Spec PyProof.Rows L2

/-- repr(x), x a list or a tuple of data -/
theorem call_reprD {X : Cx} {k : Nat} (hr : Room k X.A) (hg : X.A.guards = some []) : CallR X (.builtin "repr")
    (fun xs H Q => ∃ (p : Addr) (d : PyData), xs = [.ref p] ∧ Dp X.K H (.ref p) d ∧ d.showable = true ∧ d.hasDict = false ∧ d.depth ≤ 60 ∧ d.shown.length ≤ sizeLine ∧ Q (.str d.shown) H) := by
  intro pins s σ H xs us Q I r h
  obtain ⟨p, d, rfl, D, h1, h2, h3, h4, q⟩ := h
  obtain ⟨u, rfl, ru⟩ := vals1 r
  have eu : u = Value.ref p := ru
  subst eu
  obtain ⟨as, R⟩ := Dp.reads I d _ _ D rfl
  have room := hr.units
  refine repr_of_reads' R h1 (PyData.noDict_hsm h2) hg (by omega) (fun b o e => e) (fun h' u tk grown => ?_) h4
  exact ⟨.str d.shown, H, I.kept (h' := h') (t' := tk) grown, ⟨u, rfl⟩, q⟩

/-- what a call promises at one place of the stack -/
def RunAt (A : Around) (P : Program) (w : World) (K : PySem.W.Frag) (mg : Str → Option Value) (base : Heap) (k : Nat) (f : Addr) (fd : FuncData) (ps : List Str) (sp : Sp) : Prop :=
  ∀ (outer : List Env) (s : Shared) (H : Hp) (args : Args) (us : List Value) (vs : List V) (Q : VK) (E : XK), Room k A → Env0 P w K mg base A outer s H → BindsTo s fd args (ps.zip us) →
    Vals vs us → sp vs H Q E → codeAny (model P w) A (.call (.ref f) args) (CR CX0 outer P w H s Q E) s

/-- the heap at the law's entry: the script alone, where the module hasn't it -/
theorem entry_heap {P : Program} {w : World} {K : PySem.W.Frag} {h : Heap} {a : Addr} {vs : List Value} {ns : List Int} (KX : K.In h) (ha : h.get? a = some { cls := .type "list", data := .seq vs.toArray })
    (hi : IntsAre vs ns) (hl : ns.length ≤ sizeLine) :
    ∃ H : Hp, (∀ b, H b = none ∨ (b = a ∧ K.lookup b = none ∧ ∃ o xs, H b = some (.frz o (.lst xs)))) ∧ SqL K H a (ns.map V.int) ∧ HOk P w H h := by
  have rel : Vals (ns.map V.int) vs := vals_ints hi
  cases own : K.lookup a with
  | some o =>
    have same := (KX a o own).symm.trans ha
    injection same with same
    exact ⟨fun _ => none, fun _ => .inl rfl, .inr ⟨o, vs.toArray, _, own, by rw [same], by rw [same], by rw [same], by rw [List.size_toArray, hi.length]; exact hl, rel⟩, fun b u e => nomatch e⟩
  | none =>
    let o : Obj := { cls := .type "list", data := .seq vs.toArray }
    let H : Hp := upd (fun _ => none) a (.frz o (.lst (ns.map V.int)))
    have at_a : H a = some (.frz o (.lst (ns.map V.int))) := upd_same
    refine ⟨H, fun b => ?_, .inl (.inr ⟨o, at_a⟩), fun b u e => ?_⟩
    · by_cases hb : b = a
      · exact .inr ⟨hb, hb ▸ own, o, _, hb ▸ at_a⟩
      · exact .inl (upd_ne hb)
    · by_cases hb : b = a
      · subst hb
        have eu := Option.some.inj (at_a.symm.trans e)
        subst eu
        exact ⟨ha, by rw [List.length_map]; exact hl, vs, _, rel, ha⟩
      · have none_b := (upd_ne hb).symm.trans e
        cases none_b

/-- the law's entry, from what its own call promises there -/
theorem law_at {P : Program} {w : World} {K : PySem.W.Frag} {mg mb : Str → Option Value} {k : Nat} {fa a : Addr} {fd : FuncData} {x : Str} {sp : Sp} {s : Shared} {vs : List Value} {ns : List Int}
    (KX : K.In s.heap) (glob : s.heap.Ns mainGlobals mg) (hb : s.heap.Ns builtinsNs mb) (boot : ∀ x : Str, x ≠ "__name__" → mb x = bootBuiltins x) (lim : s.heap.NoLimit) (gen : s.gens = #[])
    (ha : s.heap.get? a = some { cls := .type "list", data := .seq vs.toArray }) (hi : IntsAre vs ns) (hl : ns.length ≤ sizeLine) (room : Room k callerA)
    (F : ∀ base : Heap, K.In base → base.Ns mainGlobals mg → RunAt callerA P w K mg base k fa fd [x] sp) (bind : ∀ (s : Shared) (u : Value), BindsTo s fd ⟨[u], []⟩ [(x, u)])
    (want : ∀ H : Hp, SqL K H a (ns.map V.int) → sp [.ref a] H (fun v _ => v = .bl true) fun _ _ _ => False) :
    codeAny (model P w) callerA (.call (.ref fa) ⟨[.ref a], []⟩) (fun r s' => r = .ok (.ret (.bool true)) ∧ OldK s.heap s'.heap ∧ s'.os = s.os ∧ AllBare s'.gens) s := by
  obtain ⟨H, only, seq, ok⟩ := entry_heap (P := P) (w := w) KX ha hi hl
  have inB : ∀ {b : Addr} {o : Obj}, s.heap.get? b = some o → H b = none → (hidT s.heap H).get? b = some o := hidT_get
  have freeD : ∀ {b : Addr} {o : Obj} {es : Array DictEntry} {ep : Nat}, s.heap.get? b = some o → o.data = .dict es ep → H b = none := by
    intro b o es ep e d
    rcases only b with z | ⟨rfl, _⟩
    · exact z
    · rw [ha] at e
      injection e with e
      subst e
      exact nomatch (show Data.seq vs.toArray _ = Data.dict es ep from d)
  have nsB : ∀ {b : Addr} {m : Str → Option Value}, s.heap.Ns b m → (hidT s.heap H).Ns b m := by
    rintro b m ⟨o, es, ep, e, d, rest⟩
    exact ⟨o, es, ep, inB e (freeD e d), d, rest⟩
  have kB : K.In (hidT s.heap H) := by
    intro b o e
    refine inB (KX b o e) ?_
    rcases only b with z | ⟨_, z, _⟩
    · exact z
    · rw [z] at e
      cases e
  have M : Mod K mg (hidT s.heap H) := { kin := kB, glob := nsB glob, blt := ⟨mb, nsB hb, boot⟩, nolimit := by obtain ⟨mc, z1, z2⟩ := lim; exact ⟨mc, nsB z1, z2⟩ }
  have E0 : Env0 P w K mg (hidT s.heap H) callerA [] s H := { frames := rfl, mod := M, bs := fun b o e => of_hidT e, bsz := Nat.le_of_eq (hidT_size _ _), funs := trivial, frf := fun b z => (nomatch z), hok := ok, bare := .of_eq gen }
  have go := F _ kB (nsB glob) [] s H ⟨[.ref a], []⟩ [.ref a] [.ref a] _ _ room E0 (bind s _) (.cons rfl .nil) (want H seq)
  refine codeAny_mono go fun r s' got => ?_
  match r, got with
  | .error _, got => exact False.elim got
  | .ok .next, got => exact False.elim got
  | .ok .brk, got => exact False.elim got
  | .ok .cont, got => exact False.elim got
  | .ok (.ret u), ⟨v, H', os, bare, un, ok', ru, is⟩ =>
    have ev : v = V.bl true := is
    subst ev
    have eu : u = Value.bool true := ru
    subst eu
    refine ⟨rfl, OldK.of_keep fun b o e => ?_, os, bare⟩
    rcases only b with z | ⟨_, _, ob, xs, z⟩
    · exact un.keep b o e z (fun z => nomatch z) (fun z => nomatch z)
    · have before := (ok b _ z).1
      have behind := (ok' b _ (un.frzs b ob _ z)).1
      rw [before] at e
      injection e with e
      subst e
      exact behind

/-- the goal that the head leaves, for a law whose own body wants the stack's guards told -/
theorem walk_at {l : PySem.W.OpenLaw} {n k : Nat} {q : Program} {loose : List Str} {XP : (Str → Option Value) → Heap → Prop} {YP : World → Heap → Prop} {d : DefRec} {K : Params → PySem.W.Frag} {sp : World → Sp} {x : Str}
    (most : l.most = some n) (small : n ≤ sizeLine) (plain : d.params.defaults = []) (room : Room k callerA) (hY : ∀ (w : World) (h : Heap), YP w h → (K w.params).In h)
    (F : ∀ (w : World) (mg : Str → Option Value) (fa : Addr) (h : Heap), (K w.params).In h → h.Ns mainGlobals mg → mg d.name = some (.ref fa) →
      ∃ fd : FuncData, (∀ (s : Shared) (u : Value), BindsTo s fd ⟨[u], []⟩ [(x, u)]) ∧ ∀ base : Heap, (K w.params).In base → base.Ns mainGlobals mg → RunAt callerA l.prog w (K w.params) mg base k fa fd [x] (sp w))
    (want : ∀ (w : World) (H : Hp) (a : Addr) (ns : List Int), ns.length ≤ n → SqL (K w.params) H a (ns.map V.int) → sp w [.ref a] H (fun v _ => v = .bl true) fun _ _ _ => False) :
    PySem.W.WalkO q loose XP YP l.row.toRowW d [] (fun f vs => PySem.call f vs) := by
  refine Att.attach_call most plain fun w s₀ s₁ mg mb fa o pm cd doc a vs ns G Y _ _ _ named obj hints few gen => ?_
  have KX := hY w _ Y
  obtain ⟨fd, hb, hF⟩ := F w mg fa _ KX G.T.g named
  exact law_at KX G.T.g G.T.b G.T.builtins G.T.nolimit gen obj hints (Nat.le_trans few small) room hF hb fun H S => want w H a ns few S

section
variable {P : Program} {w : World} {K : PySem.W.Frag} {mg : Str → Option Value} {base : Heap}
/-- a def by its body, at one place of the stack -/
theorem fun_at {A : Around} {x qual : Str} {st : Stmt} {f : Addr} {fd : FuncData} {N ps : List Str} {k : Nat} {sp : Sp} (F : Fun K x qual st f fd) (S : FnScope N ps (defScope st)) (len : ∀ vs H Q E, sp vs H Q E → vs.length = ps.length)
    (body : ∀ (cdv : Value) (outer : List Env) (s : Shared) (H : Hp) (vs : List V) (Q : VK) (E : XK), Room k (A.deeper (envOfC qual (defScope st) s.heap.objs.size f cdv)) → sp vs H Q E →
      ∃ t, PSs (cxOf CX0 P w K mg base N qual (defScope st) f cdv A outer s H E).nox (defBody st) t ∧ t { nx := fun _ H' => Q .non H', rt := Q } (start N vs) H) : RunAt A P w K mg base (k + 1) f fd ps sp := by
  obtain ⟨oc, od, kV, doc, pm, an, cdv, ct, osl, rfl, lk, code⟩ := F.ex
  intro outer s H args us vs Q E room e0 bind rel h
  have many := len _ _ _ _ h
  have keep0 : ∀ b o, base.get? b = some o → s.heap.get? b = some o := fun b o e => (e0.bs b o e).1
  have KX : K.In s.heap := e0.mod.kin.keeps keep0
  have lim : s.heap.NoLimit := e0.mod.nolimit.keeps keep0
  have kinds : ∀ y ∈ ps.zip us, (defScope st).names.lookup y.1 = some .local ∨ ((defScope st).names.lookup y.1 = some .cell ∧ ((cellsFrom (s.heap.objs.size + 1) (defScope st).names []).lookup y.1).isSome = true) := by
    rintro ⟨n, v⟩ hy
    rcases S.par n (List.of_mem_zip hy).1 with z | z
    · exact Or.inl z
    · exact Or.inr ⟨z, PySem.W.cellsFrom_some _ _ _ (Or.inl z)⟩
  refine codeAny_call_function room.depth (KX _ _ lk) rfl S.co S.gen rfl (PySem.W.codeRec_of KX code) (bind _ _ _ _ ?_)
  refine wpAny_newFunctionEnv_cells S.kind kinds fun env he s1 inside => ?_
  subst he
  refine ⟨lim.keeps inside.toInCall.keep, codeAny_func ?_⟩
  obtain ⟨t, ht, start_t⟩ := body cdv outer s H vs Q E (room.deeper _) h
  have I := inv_start (E := E) (CX := CX0) S room.hd e0 many rel inside
  refine wpAny_mono (ht.nox.run [] s1 (start N vs) H _ I start_t) (fun fl s' got => ?_) fun e s' got => got
  match fl, got with
  | .ret u, ⟨v, σ', H', J, ru, q⟩ => exact ⟨v, H', J.os, J.bare, J.base, J.hok, ru, q⟩
  | .next, ⟨σ', H', J, q⟩ => exact ⟨V.non, H', J.os, J.bare, J.base, J.hok, rfl, q⟩
  | .brk, ⟨_, _, _, q⟩ => exact False.elim q
  | .cont, ⟨_, _, _, q⟩ => exact False.elim q
end
end Ak
/-! errors of own classes as values: made by an own __init__ or without one, their fields, isinstance -/
namespace Ak
open PySem PySem.Spec PyProof.Rows L2
/-- an error made, its class at D, its fields -/
def ErrAt (H : Hp) (a D : Addr) (fs : List (Str × V)) : Prop := (∃ dx, H a = some (exo a D (some dx)) ∧ H dx = some (exd dx fs)) ∨ (H a = some (ExO (.ref D) a) ∧ fs = [])
theorem ErrAt.inst {P : Program} {w : World} {H : Hp} {h : Heap} {a D : Addr} {fs : List (Str × V)} (e : ErrAt H a D fs) (ok : HOk P w H h) : ∃ (o : Obj) (od : Option Obj), PySem.W.InstAt h a o D od := by
  rcases e with ⟨dx, e1, e2⟩ | ⟨e1, _⟩
  · obtain ⟨t, at_a⟩ := exo_at ok e1
    obtain ⟨m, ns, _⟩ := exd_at ok e2
    obtain ⟨od, at_d, _⟩ := lookIn_ns ns
    exact ⟨_, some od, at_a, rfl, rfl, at_d⟩
  · obtain ⟨⟨o, vs, at_a, z, d, _⟩, _⟩ := ok a _ e1
    exact ⟨o, none, at_a, z.1, by unfold PySem.W.notCls; rw [d] <;> rfl, by rw [z.2]; trivial⟩
/-- isinstance(e, c) of such a one -/
def rIsV (K : PySem.W.Frag) : List V → Hp → VK → Prop := fun xs H Q => ∃ (a D : Addr) (fs : List (Str × V)) (c : V) (cv : Value) (b : Bool), xs = [.ref a, c] ∧ ErrAt H a D fs ∧ ExcC K D ∧ (∀ u, RelV c u → u = cv) ∧ PySem.W.kitOne K (.ref D) cv = some b ∧ Q (.bl b) H
theorem call_isV {X : Cx} : CallR X (.builtin "isinstance") (rIsV X.K) := by
  intro pins s σ H xs us Q I r h
  obtain ⟨a, D, fs, c, cv, b, rfl, at_a, C, is, e, q⟩ := h
  match us, r with
  | _, .cons (b := u0) r0 (.cons (b := u1) r1 .nil) =>
    have e0 : u0 = Value.ref a := r0
    subst e0
    have e1 := is _ r1
    subst e1
    obtain ⟨o, od, J⟩ := at_a.inst I.hok
    obtain ⟨cd, hc, _⟩ := PySem.W.any_some C.hd
    exact PySem.W.kia_one (PySem.W.kitx_exc (by rw [hc]; rfl) C.hg C.hk C.hs C.ha C.hn C.ht C.hm) I.kIn J e (fun z => nomatch z) fun tk => ⟨.bl b, H, I.kept (t' := tk) fun _ _ z => z, rfl, q⟩
/-- e.name -/
def tErrF (K : PySem.W.Frag) (name : Str) (te : TE) : TE := fun σ H Q => te σ H fun x H1 => ∃ (a C dx : Addr) (fs : List (Str × V)) (v : V), x = .ref a ∧ XfC K C ∧ PySem.W.findIn K (.ref C) name = some none ∧ H1 a = some (exo a C (some dx)) ∧ H1 dx = some (exd dx fs) ∧
  fs.lookup name = some v ∧ Q v H1
theorem pe_errF {X : Cx} {e : Expr} {te : TE} {pos : Pos} {name : Str} (he : PE X e te) (hb : attributeBase e name X.env (eval e X.env) = eval e X.env := by rfl) : PE X (.Attribute e name pos) (tErrF X.K name te) := by
  refine ⟨fun pins s σ H Q I h => attr_of hb (thn (he.run pins s σ H _ I h) fun u s1 got => ?_)⟩
  obtain ⟨x, H1, I1, ru, a, C, dx, fs, v, rfl, T, no, e1, e2, look, q⟩ := got
  have eu : u = Value.ref a := ru
  subst eu
  obtain ⟨t, at_a⟩ := exo_at I1.hok e1
  obtain ⟨m, ns, rel⟩ := exd_at I1.hok e2
  obtain ⟨od, at_d, all⟩ := lookIn_ns ns
  obtain ⟨y, hy, ry⟩ := RelO.some_of (v := v) (o := m name) (by rw [← look]; exact rel name)
  have J : PySem.W.InstAt s1.heap a _ C (some od) := ⟨at_a, rfl, rfl, at_d⟩
  exact HandSPX.exc_get I1.kIn J T.ga T.gg T.exC (PySem.W.findObj_own T.hdC no rfl (by rw [all, hy])) (handed_of ry) ⟨v, H1, I1.tok _, ry, q⟩
section
variable {X : Cx} {e : Expr} {es : List Expr} {ta : TA} {p pos : Pos}
/-- C(e, ..), C's own __init__ keeping sp: the error as a value -/
def tMkV (C : Addr) (sp : Sp) (ta : TA) : TE := fun σ H Q => ta σ H fun vs H1 => vs.length ≤ 1000 ∧ ∀ a, H1 a = none → sp (.ref a :: vs) (upd H1 a (exo a C none)) (fun v H2 => v = .non ∧ Q (.ref a) H2) (fun _ _ _ => False)
theorem pe_errI {x : Str} {C fI : Addr} {k : Nat} {fd : FuncData} {ps : List Str} {sp : Sp} (T : OexC X.K C) (own : PySem.W.findIn X.K (.ref C) "__init__" = some (some (.ref fI))) (isF : PySem.W.typeIn X.K (.ref fI) = some (.type "function"))
    (F : FnOk X.prog X.w X.K X.mg X.base CX0 k fI fd ps sp) (room : Room (k + 1) X.A) (hb : Binds X.K fd ps []) (hg : Gl X x) (hm : X.mg x = some (.ref C)) (ha : PA X (e :: es) ta)
    (hdb : (x == ("__debug__" : Str)) = false := by decide) (he : starEach (e :: es) X.env = (false, eval e X.env) :: starEach es X.env := by rfl) (hpl : (backTo pos (starEach es X.env)).any (·.1) = false := by rfl) :
    PE X (.Call (.Name x p) (e :: es) [] pos) (tMkV C sp ta) := by
  refine ⟨fun pins s σ H Q I h => wpAny_Call_Name_kw (ld_glob I hg hm ?_ hdb)⟩
  obtain ⟨nm, q, N, bs, bm, sn, sub, ab, col, dd, k0, k1, k2, k3, k5, objC, base⟩ := T.cls
  refine PySem.W.callWith_K (h₀ := X.base) I.ok.mod.kin T.kC (thn (ha.run pos pins s σ H _ I h) ?_) he hpl
  rintro us ⟨hp, g, dr, tk, os⟩ ⟨vs, H1, I1, rel, few, want⟩
  refine ⟨I1.kIn, ?_⟩
  have later : hp.objs.size ≤ hp.objs.size + 1 := Nat.le_add_right _ _
  have got := want (hp.objs.size + 1) (I1.hok.fresh later)
  have at_new : ((hp.push (PySem.W.kdv_tup us)).push (PySem.HandSPX.excO C hp.objs.size)).get? (hp.objs.size + 1) = some (PySem.HandSPX.excO C hp.objs.size) := by heap_get
  have J : Inv X pins σ (upd H1 (hp.objs.size + 1) (exo (hp.objs.size + 1) C none)) ⟨(hp.push (PySem.W.kdv_tup us)).push (PySem.HandSPX.excO C hp.objs.size), g, dr, tk, os⟩ :=
    I1.laid (t' := tk) (o := exo (hp.objs.size + 1) C none) (fun b o z => Heap.get?_push_of_some _ (Heap.get?_push_of_some _ z)) later (exo_ok at_new)
  have rel2 : Vals (V.ref (hp.objs.size + 1) :: vs) (Value.ref (hp.objs.size + 1) :: us) := .cons rfl rel
  have many : (Value.ref (hp.objs.size + 1) :: us).length = ps.length := rel2.length.symm.trans (F.len _ _ _ _ got)
  have fits : us.length ≤ sizeLine := by
    rw [← Paired.length rel, sizeLine_eq]
    omega
  have bind := hb ⟨(hp.push (PySem.W.kdv_tup us)).push (PySem.HandSPX.excO C hp.objs.size), g, dr, tk, os⟩ (Value.ref (hp.objs.size + 1) :: us) J.kIn (by rw [List.append_nil]; exact many)
  rw [List.append_nil] at bind
  show wpAny _ _ (call (.ref C) us) _ _ _
  refine wpAny_call (PySem.HandSPX.call_own PySem.F.excBase_ValueError (fun Y => PySem.HandSPX.refsVE_contains Y bm base) (I1.kIn _ _ objC) (PySem.W.looks_findIn I1.kIn own) (fun self => PySem.W.bind_fn I1.kIn self isF) fits
    (codeAny_mono (F.run _ X.stack _ _ ⟨Value.ref (hp.objs.size + 1) :: us, []⟩ _ _ _ _ (room.make C us []) (J.env0.make C us []) bind rel2 got) ?_))
  intro r s' ends
  match r, ends with
  | .error _, ends => exact False.elim ends
  | .ok .next, ends => exact False.elim ends
  | .ok .brk, ends => exact False.elim ends
  | .ok .cont, ends => exact False.elim ends
  | .ok (.ret u), ⟨v, H2, os2, bare2, un2, ok2, rv, none_v, q2⟩ =>
    have ev : v = V.non := none_v
    subst ev
    obtain ⟨v2, H3, I3, r3, e3, q3⟩ := J.after (Q := fun v H2 => v = V.non ∧ Q (.ref (hp.objs.size + 1)) H2) (u := u) (s' := s') ⟨V.non, H2, os2, bare2, un2, ok2, rv, rfl, q2⟩
    exact ⟨rv, .ref (hp.objs.size + 1), H3, I3, rfl, q3⟩
/-- C(), C an own class of errors without an own __init__ -/
def tMkV0 (C : Addr) : TE := fun σ H Q => ∀ a, H a = none → Q (.ref a) (upd H a (ExO (.ref C) a))
theorem pe_err0 {x : Str} {C : Addr} {bmB : List Value} {B newId initId : String} (F : ExcBaseFacts B newId initId bmB) (q : PySem.W.excIn X.K C bmB newId = true) (hm : X.mg x = some (.ref C)) (kC : PySem.W.keepIn X.K (.ref C) = true) (hg : Gl X x)
    (hdb : (x == ("__debug__" : Str)) = false := by decide) : PE X (.Call (.Name x p) [] [] pos) (tMkV0 C) := by
  refine ⟨fun pins s σ H Q I h => wpAny_Call_Name_kw (ld_glob I hg hm ?_ hdb)⟩
  refine PySem.W.callWith_K0 I.kIn kC ?_
  obtain ⟨bm, N, nm, qn, bs, hdct, sn, sub, ab, col, dd, k0, k1, k2, k3, k5, mN, objC, ns, no, T⟩ := exc_obj I.kIn q
  obtain ⟨hp, g, dr, tk, os⟩ := s
  refine wpAny_call_exc_subT F T objC ns no (fun h' a made => ?_) (by show 0 ≤ sizeLine; exact Nat.zero_le _)
  have free : H a = none := I.hok.gone made.new
  obtain ⟨t, at_a, _, _⟩ := made.there
  exact ⟨.ref a, upd H a (ExO (.ref C) a), I.laidN made.keeps made.new free (exO_ok at_a ⟨rfl, rfl⟩ rfl rfl rfl (show 4 < 6 by decide)), rfl, h a free⟩
end
end Ak
namespace Ak
open PySem L2
def top (i : Nat) : Stmt := PySem.Challenge.pw_askladder_k01_refusals.main.body.getD i (.Pass ⟨0, 0, 0, 0⟩)
end Ak
namespace Ak
open PySem L2
local macro_rules | `(tactic| walk_at "no attr") => `(tactic| exact rwF_no _ _ _ (by decide +kernel) (by decide +kernel) (by decide +kernel))
/-! ### the box of draws: _law_deal, _law_draw -/
abbrev st_l_deal : Stmt := top 8
theorem sc_l_deal : FnScope ["_law_script", "_law_base", "_law_one", "_law_some_here", "_law_number"] ["_law_script", "_law_base"] (defScope st_l_deal) := ⟨rfl, rfl, rfl, by decide +kernel, rfl, by decide +kernel, by decide +kernel⟩
abbrev st_l_draw : Stmt := top 9
theorem sc_l_draw : FnScope ["_law_deal_here", "_law_many", "_law_number", "_law_one", "_law_other"] ["_law_deal_here", "_law_many"] (defScope st_l_draw) := ⟨rfl, rfl, rfl, by decide +kernel, rfl, by decide +kernel, by decide +kernel⟩
structure BltD (mg : Str → Option Value) : Prop where
  len : mg "len" = none
  list : mg "list" = none
  reversed : mg "reversed" = none
  max : mg "max" = none
section
variable {P : Program} {w : World} {K : PySem.W.Frag} {mg : Str → Option Value} {base : Heap}
def DrawW (d l : Addr) (n : Int) (H : Hp) (m : Nat) (σ : L2.St) (H1 : Hp) : Prop :=
  σ = start ["_law_deal_here", "_law_many", "_law_number", "_law_one", "_law_other"] [.ref d, .int n] ∧ ∃ (s0 n0 : Int) (left : List Int), m = left.length ∧ 0 ≤ s0 ∧ s0 < 2147483647 ∧ 0 ≤ n0 ∧ (∀ x ∈ left, 0 ≤ x) ∧ H1 d = some (.dK (dealL s0 n0 l)) ∧ H1 l = some (.lst (left.map V.int)) ∧ Kp d l H H1
theorem ok_draw {f : Addr} {fd : FuncData} (D : Fn K mg "_law_draw" st_l_draw ["_law_deal_here", "_law_many"] f fd) (T : BltD mg) : FnOk P w K mg base CX0 1 f fd ["_law_deal_here", "_law_many"] spDraw := by
  refine D.F.ok sc_l_draw (fun vs H Q E h => ?_) (fun cdv A outer s H vs Q E hr h => ?_)
  · obtain ⟨d, l, n, rfl, _⟩ := h
    rfl
  · obtain ⟨d, l, n, rfl, hD, h1, h2, k⟩ := h
    have hu := hu_of hr
    have ndl := hD.ne
    refine ⟨_, (pss_cons (ps_while PassesOwn.never (PW.pt (pw_and (pt_cmpR op_eq (pe_dget hu (pv 0) pe_str (fun _ _ => rfl)) pe_int (nomark _)) (pw_and1 (pt_cmpR op_gt (pe_callB call_len_seq (by rfl) T.len (by decide +kernel) (pa_cons (pe_dget hu (pv 0) pe_str (fun _ _ => rfl)) pa_nil)) pe_int (nomark _))))) (pss_one (ps_dput hu (pv 0) pe_str (pe_bm0 PySem.F.plainAttrs_list PySem.F.slot_list_pop PySem.F.type_list_pop mt_pop (pe_dget hu (pv 0) pe_str (fun _ _ => rfl))) rfl)))
      (pss_cons (ps_set (i := 2) sc_l_draw.nd rfl (Or.inl rfl) (pe_dget hu (pv 0) pe_str (fun _ _ => rfl)))
      (pss_cons (ps_if (pt_cmpR op_gt (pv 2) pe_int (nomark _)) (pss_cons (ps_dput hu (pv 0) pe_str (pe_op op_fdivN (pv 2) (pv 1)) rfl)
      (pss_one (ps_ret (pe_op op_modN (pv 2) (pv 1))))) pss_nil)
      (pss_cons (ps_set (i := 3) sc_l_draw.nd rfl (Or.inl rfl) (pe_op op_modN (pe_op op_add (pe_op op_mul (pe_dget hu (pv 0) pe_str (fun _ _ => rfl)) pe_int) pe_int) pe_int))
      (pss_cons (ps_dput hu (pv 0) pe_str (pe_op op_modN (pe_op op_add (pe_op op_mul (pv 3) pe_int) pe_int) pe_int) rfl)
      (pss_cons (ps_set (i := 4) sc_l_draw.nd rfl (Or.inl rfl) (pe_op op_modN (pe_op op_mul (pe_dget hu (pv 0) pe_str (fun _ _ => rfl)) (pe_dget hu (pv 0) pe_str (fun _ _ => rfl))) pe_int))
      (pss_one (ps_ret (pe_op op_modN (pe_op op_add (pe_op op_mul (pe_op op_modN (pe_op op_mul (pv 3) (pv 3)) pe_int) pe_int) (pv 4)) (pv 1)))))))))), ?_⟩
    obtain ⟨s0, n0, left, a1, a2, a3, a4, e1, e2⟩ := hD
    refine ⟨DrawW d l n H, ⟨left.length, rfl, s0, n0, left, rfl, a1, a2, a3, a4, e1, e2, Kp.refl _ _ _⟩, ?_⟩
    clear e1 e2 a1 a2 a3 a4
    clear s0 n0 left
    rintro m σ H1 ⟨rfl, s0, n0, left, rfl, a1, a2, a3, a4, e1, e2, kp⟩
    have gs := deal_gs e1
    have gn := deal_gn e1
    have gl := deal_gl e1
    have kd : ∀ o, Kp d l H (upd H1 d o) := fun o b u e b1 b2 => by rw [upd_ne b1]; exact kp b u e b1 b2
    -- number == 0 and len(left) > 0
    refine dec_and (p := n0 = 0) (q := 0 < left.length) (dec_of fun Q' h => ?_) (fun _ => dec_of fun Q' h => ?_) _ (fun c => iteT ?_) (fun c => iteF ?_)
    · refine ⟨_, rfl, d, .int n0, rfl, gn, rfl, ?_⟩
      have e : decide (V.int n0 = V.int 0) = decide (n0 = 0) := decide_eq_decide.mpr ⟨fun z => V.int.inj z, fun z => by rw [z]⟩
      rw [e]
      exact h
    · refine ⟨_, rfl, d, .ref l, rfl, gl, l, _, rfl, .inl (SqL.of e2), _, _, rfl, rfl, ?_⟩
      have e : decide ((0 : Int) < ((left.map V.int).length : Int)) = decide (0 < left.length) := by rw [List.length_map]; exact decide_eq_decide.mpr (by omega)
      show Q' (.bl (decide ((0 : Int) < ((left.map V.int).length : Int)))) H1
      rw [e]
      exact h
    · -- number = left.pop()
      obtain ⟨c1, hl⟩ := c
      obtain ⟨ini, x, rfl⟩ : ∃ ini x, left = ini ++ [x] := ⟨left.dropLast, left.getLast (by intro z; rw [z] at hl; exact absurd hl (by decide)), (List.dropLast_concat_getLast _).symm⟩
      have hx : ((ini ++ [x]).map V.int)[((ini ++ [x]).map V.int).length - 1]? = some (.int x) := by simp
      have hdrop : ((ini ++ [x]).map V.int).dropLast = ini.map V.int := by simp
      refine ⟨fun σ' H' => ∃ m', m' < (ini ++ [x]).length ∧ DrawW d l n H m' σ' H', fun _ _ h => h, ?_⟩
      refine ⟨_, rfl, d, .ref l, rfl, gl, .inl ⟨rfl, _, SqL.of e2⟩, l, _, _, rfl, rfl, e2, hx, ?_⟩
      rw [hdrop]
      have e1' : (upd H1 l (.lst (ini.map V.int))) d = some (.dK (dealL s0 n0 l)) := by rw [upd_ne ndl]; exact e1
      refine ⟨_, rfl, d, upd (upd H1 l (.lst (ini.map V.int))) d (.dK (dealL s0 x l)), rfl, deal_pn x e1', ?_⟩
      refine ⟨ini.length, by simp, rfl, s0, x, ini, rfl, a1, a2, a4 x (by simp), fun y hy => a4 y (by simp [hy]), upd_same, by rw [upd_ne ndl.symm, upd_same], fun b o e b1 b2 => by rw [upd_ne b1, upd_ne b2]; exact kp b o e b1 b2⟩
    · -- number = ..; if number > 0
      refine ⟨_, rfl, d, .int n0, rfl, gn, ?_⟩
      refine ⟨_, rfl, _, _, rfl, rfl, _, rfl, ite2 (fun c => ?_) fun c => ?_⟩
      · have c := of_decide_eq_true c
        refine ⟨_, rfl, _, rfl, _, _, rfl, rfl, ⟨by omega, by omega⟩, _, rfl, d, _, rfl, deal_pn _ e1, ?_⟩
        refine ⟨_, rfl, _, rfl, _, _, rfl, rfl, by omega, ?_⟩
        refine k _ _ (Int.fmod_nonneg (by omega) (by omega)) (Int.fmod_lt_of_pos _ (by omega)) ⟨s0, n0.fdiv n, left, a1, a2, ?_, a4, upd_same, by rw [upd_ne ndl.symm]; exact e2⟩ (kd _)
        exact Int.fdiv_nonneg (by omega) (by omega)
      · have nz : ∀ {a : Int}, 0 < a → a ≠ 0 := fun h z => by omega
        refine ⟨_, rfl, d, .int s0, rfl, gs, _, _, rfl, rfl, .inl ⟨by omega, by omega⟩, _, _, rfl, rfl, _, _, rfl, rfl, nz (by decide), ?_⟩
        have o1a := Int.fmod_nonneg_of_pos (s0 * 48271 + 7919) (show (0 : Int) < 2147483647 by decide)
        have o1b := Int.fmod_lt_of_pos (s0 * 48271 + 7919) (show (0 : Int) < 2147483647 by decide)
        have s1a := Int.fmod_nonneg_of_pos ((s0 * 48271 + 7919).fmod 2147483647 * 40692 + 104729) (show (0 : Int) < 2147483399 by decide)
        have s1b := Int.fmod_lt_of_pos ((s0 * 48271 + 7919).fmod 2147483647 * 40692 + 104729) (show (0 : Int) < 2147483399 by decide)
        refine ⟨_, rfl, _, _, rfl, rfl, .inl ⟨by omega, by omega⟩, _, _, rfl, rfl, _, _, rfl, rfl, nz (by decide), ?_⟩
        refine ⟨_, rfl, d, _, rfl, deal_ps _ e1, ?_⟩
        have e1' : (upd H1 d (.dK (dealL (((s0 * 48271 + 7919).fmod 2147483647 * 40692 + 104729).fmod 2147483399) n0 l))) d = some (.dK (dealL (((s0 * 48271 + 7919).fmod 2147483647 * 40692 + 104729).fmod 2147483399) n0 l)) := upd_same
        refine ⟨_, rfl, d, _, rfl, deal_gs e1', _, rfl, d, _, rfl, deal_gs e1', _, _, rfl, rfl, .inl ⟨by omega, by omega⟩, _, _, rfl, rfl, nz (by decide), ?_⟩
        have q1 := Int.fmod_nonneg_of_pos ((s0 * 48271 + 7919).fmod 2147483647 * (s0 * 48271 + 7919).fmod 2147483647) (show (0 : Int) < 2147483629 by decide)
        have q2 := Int.fmod_lt_of_pos ((s0 * 48271 + 7919).fmod 2147483647 * (s0 * 48271 + 7919).fmod 2147483647) (show (0 : Int) < 2147483629 by decide)
        refine ⟨_, rfl, _, rfl, _, _, rfl, rfl, .inl ⟨by omega, by omega⟩, _, _, rfl, rfl, nz (by decide), ?_⟩
        refine ⟨_, _, rfl, rfl, .inl ⟨by omega, by omega⟩, _, rfl, _, _, rfl, rfl, _, rfl, _, _, rfl, rfl, nz (by omega), ?_⟩
        exact k _ _ (Int.fmod_nonneg_of_pos _ (by omega)) (Int.fmod_lt_of_pos _ (by omega)) ⟨_, n0, left, s1a, by omega, a3, a4, upd_same, by rw [upd_ne ndl.symm]; exact e2⟩ (kd _)
end
section
variable {P : Program} {w : World} {K : PySem.W.Frag} {mg : Str → Option Value} {base : Heap}
theorem ok_deal {f : Addr} {fd : FuncData} (D : Fn K mg "_law_deal" st_l_deal ["_law_script", "_law_base"] f fd) (T : BltD mg) : FnOk P w K mg base CX0 1 f fd ["_law_script", "_law_base"] (spDeal K) := by
  refine D.F.ok sc_l_deal (fun vs H Q E h => ?_) (fun cdv A outer s H vs Q E hr h => ?_)
  · obtain ⟨a, ns, b, rfl, _⟩ := h
    rfl
  · obtain ⟨a, ns, b, rfl, hS, hn, b0, b1, k⟩ := h
    have hu := hu_of hr
    have nz : ∀ {a : Int}, 0 < a → a ≠ 0 := fun h z => by omega
    refine ⟨_, (pss_cons (ps_setLc (i := 3) (own := [("_law_one", 2)]) (g := gName 2) (tt := tYes) rfl sc_l_deal.nd rfl rfl (sw_true rfl rfl rfl (by decide +kernel)) (pi_list (pe_slice sl_list (pv 0) (po_some (pv 1)) (po_some pe_int))) (blkOk_by (own := [("_law_one", 2)]) (N := ["_law_script", "_law_base", "_law_one", "_law_some_here", "_law_number"]) (sc := defScope st_l_deal) (by decide +kernel)) (fun _ _ _ _ _ => (pg_name (i := 2) sc_l_deal.nd rfl (Or.inl rfl))) (fun _ _ _ _ _ => pts_nil) (fun _ _ _ _ _ => (pe_callB (call_max2 rfl) (by rfl) T.max (by decide +kernel) (pa_cons (pv 2) (pa_cons (pe_op op_sub pe_int (pv 2)) pa_nil)))))
      (pss_cons (ps_set (i := 4) sc_l_deal.nd rfl (Or.inl rfl) (pe_op op_add pe_int (pv 1)))
      (pss_cons (ps_for PassesOwn.never rfl (pi_list (pv 3)) (pg_name (i := 2) sc_l_deal.nd rfl (Or.inl rfl)) (pss_one (ps_set (i := 4) sc_l_deal.nd rfl (Or.inl rfl) (pe_op op_modN (pe_op op_add (pe_op op_mul (pv 4) pe_int) (pe_op op_modN (pv 2) pe_int)) pe_int))))
      (pss_one (ps_ret (pe_disp (pps_cons pe_str (pv 4) (pps_cons pe_str pe_int (pps_cons pe_str (Ak.pe_lstRev rfl rfl T.list rfl T.reversed (pe_lc (own := [("_law_one", 2)]) (g := gName 2) (tt := _) rfl sc_l_deal.nd (pi_list (pv 3)) (blkOk_by (own := [("_law_one", 2)]) (N := ["_law_script", "_law_base", "_law_one", "_law_some_here", "_law_number"]) (sc := defScope st_l_deal) (by decide +kernel)) (fun _ _ _ _ _ => (pg_name (i := 2) sc_l_deal.nd rfl (Or.inl rfl))) (fun _ _ _ _ _ => (pts_one (pt_cmpR op_ge (pv 2) (pe_op op_pow pe_int pe_int) (nomark _)))) (fun _ _ _ _ _ => (pv 2)))) pps_nil))) (by rfl) (by rfl) (fun z => by cases z) (by decide))))))), ?_⟩
    obtain ⟨cs, hcs, hcl⟩ : ∃ cs : List Int, cutV (ns.map V.int) (some b) (some 63) = cs.map V.int ∧ cs.length ≤ ns.length := by
      refine ⟨(ns.drop (HT.sIx (ns.map V.int).length 0 (some b))).take (HT.sIx (ns.map V.int).length (ns.map V.int).length (some 63) - HT.sIx (ns.map V.int).length 0 (some b)), ?_, ?_⟩
      · unfold cutV
        rw [List.map_take, List.map_drop]
      · rw [List.length_take, List.length_drop]; omega
    refine ⟨_, rfl, _, rfl, b, rfl, 63, rfl, a, _, rfl, hS, fun p np => ⟨p, rfl, ⟨_, SqL.of upd_same⟩, fun L hL => ?_⟩⟩
    rw [hcs] at hL ⊢
    have nLp : L ≠ p := by intro z; rw [z, upd_same] at hL; cases hL
    have nL : H L = none := by rw [upd_ne nLp] at hL; exact hL
    have hp1 : (upd H p (.lst (cs.map V.int))) p = some (.lst (cs.map V.int)) := upd_same
    refine lc_list (K := K) (a := p) (xs := cs.map V.int) (fun i H' => Same H H' ∧ H' p = some (.lst (cs.map V.int)) ∧ H' L = some (.lst ((cs.take i).map fun x => V.int (ab x)))) ⟨?_, ?_, ?_⟩ (fun i H' _ q => SqL.of q.2.1) (fun i x H' hx q => ?_) fun H' q => ?_
    · exact (Same.new np).trans (Same.new hL)
    · rw [upd_ne nLp.symm]; exact hp1
    · rw [upd_same]; rfl
    · obtain ⟨z, hz, rfl⟩ : ∃ z, cs[i]? = some z ∧ x = V.int z := by
        rw [List.getElem?_map] at hx
        cases h : cs[i]? with
        | none => rw [h] at hx; cases hx
        | some z => rw [h] at hx; exact ⟨z, rfl, (Option.some.inj hx).symm⟩
      obtain ⟨q1, q2, q3⟩ := q
      have hi : i < cs.length := (List.getElem?_eq_some_iff.mp hz).1
      refine ⟨rfl, lc_yes ?_⟩
      refine ⟨_, rfl, _, rfl, _, _, rfl, rfl, _, _, rfl, _, q3, small1000 (by simp; omega), ?_, ?_, ?_⟩
      · intro c o e
        rw [upd_ne (ne_of_none e nL)]; exact q1 c o e
      · rw [upd_ne nLp.symm]; exact q2
      · rw [upd_same]
        have e : cs.take (i + 1) = cs.take i ++ [z] := by rw [List.take_succ, hz]; rfl
        rw [e, List.map_append]
        rfl
    · rw [List.length_map, List.take_length] at q
      obtain ⟨q1, q2, q3⟩ := q
      -- number = 7919 + base
      refine ⟨_, rfl, _, _, rfl, rfl, ?_⟩
      -- for one in some_here
      refine ⟨_, rfl, L, rfl, ⟨_, SqL.of q3⟩, for_list (xs := cs.map fun x => V.int (ab x)) (fun i σ H1 => H1 = H' ∧ ∃ (v2 : Option V) (num : Int), σ = [some (.ref a), some (.int b), v2, some (.ref L), some (.int num)] ∧ 0 ≤ num ∧ num < 2147483647) ⟨rfl, _, _, rfl, by omega, by omega⟩ (fun i σ H1 _ r => by rw [r.1]; exact SqL.of q3) (fun i x σ H1 hx r => ?_) fun σ H1 r => ?_⟩
      · obtain ⟨rfl, v2, num, rfl, n1, n2⟩ := r
        obtain ⟨z, rfl⟩ : ∃ z, x = V.int z := by
          rw [List.getElem?_map] at hx
          cases h : cs[i]? with
          | none => rw [h] at hx; cases hx
          | some z => rw [h] at hx; exact ⟨_, (Option.some.inj hx).symm⟩
        refine ⟨_, rfl, _, _, rfl, rfl, .inl ⟨by omega, by omega⟩, _, rfl, _, _, rfl, rfl, nz (by decide), _, _, rfl, rfl, _, _, rfl, rfl, nz (by decide), ?_⟩
        exact ⟨rfl, _, _, rfl, Int.fmod_nonneg_of_pos _ (by decide), Int.fmod_lt_of_pos _ (by decide)⟩
      · obtain ⟨rfl, v2, num, rfl, n1, n2⟩ := r
        -- the dict
        intro d hd
        refine ⟨_, rfl, ?_⟩
        have ndL : L ≠ d := ne_of_none q3 hd
        refine ⟨_, rfl, L, rfl, ⟨_, SqL.of (by rw [upd_ne ndL]; exact q3)⟩, fun M hM => ?_⟩
        have nMd : M ≠ d := by intro z; rw [z, upd_same] at hM; cases hM
        have nM : H1 M = none := by rw [upd_ne nMd] at hM; exact hM
        refine lc_list (K := K) (a := L) (xs := cs.map fun x => V.int (ab x)) (fun i H2 => Same H1 H2 ∧ H2 d = some (.dK []) ∧ ∃ sel : List Int, H2 M = some (.lst (sel.map V.int)) ∧ sel.length ≤ i ∧ ∀ x ∈ sel, 0 ≤ x) ⟨?_, ?_, ?_⟩ (fun i H2 _ r => SqL.of (r.1 _ _ q3)) (fun i x H2 hx r => ?_) fun H2 r => ?_
        · exact (Same.new hd).trans (Same.new hM)
        · rw [upd_ne nMd.symm, upd_same]
        · exact ⟨[], by rw [upd_same]; rfl, Nat.le_refl _, fun _ z => nomatch z⟩
        · obtain ⟨z, hz, rfl⟩ : ∃ z, cs[i]? = some z ∧ x = V.int (ab z) := by
            rw [List.getElem?_map] at hx
            cases h : cs[i]? with
            | none => rw [h] at hx; cases hx
            | some z => rw [h] at hx; exact ⟨z, rfl, (Option.some.inj hx).symm⟩
          obtain ⟨r1, r2, sel, r3, r4, r5⟩ := r
          have hi : i < cs.length := (List.getElem?_eq_some_iff.mp hz).1
          refine ⟨rfl, _, rfl, _, _, rfl, rfl, ⟨by decide, by decide, by decide⟩, _, _, rfl, rfl, _, rfl, ite2 (fun c => ?_) fun c => ?_⟩
          · refine ⟨_, rfl, _, r3, small1000 (by simp; omega), ?_, ?_, sel ++ [ab z], ?_, by simp; omega, ?_⟩
            · intro c o e
              rw [upd_ne (ne_of_none e nM)]; exact r1 c o e
            · rw [upd_ne nMd.symm]; exact r2
            · rw [upd_same, List.map_append]; rfl
            · intro y hy
              rcases List.mem_append.mp hy with hy | hy
              · exact r5 y hy
              · rw [List.mem_singleton.mp hy]; exact ab_nonneg z
          · exact ⟨r1, r2, sel, r3, by omega, r5⟩
        · obtain ⟨r1, r2, sel, r3, r4, r5⟩ := r
          refine ⟨M, _, rfl, SqL.of r3, fun q hq => ?_⟩
          have nqd : q ≠ d := by intro z; rw [z, r2] at hq; cases hq
          refine ⟨by rw [upd_ne nqd.symm]; exact r2, dealL num 0 q, rfl, (by show 3 ≤ 15; decide), ?_⟩
          have em : mergeK ([] : List (Key × V)) (dealL num 0 q) = dealL num 0 q := deal_merge num 0 q
          rw [em, ← List.map_reverse]
          refine k d q _ (q1.free hd) ((q1.trans r1).free hq) ⟨num, 0, sel.reverse, n1, n2, by decide, fun x hx => r5 x (List.mem_reverse.mp hx), upd_same, by rw [upd_ne nqd, upd_same]⟩ ?_
          intro c o e
          rw [upd_ne (ne_of_none (q1 _ _ e) hd), upd_ne (ne_of_none (r1 _ _ (q1 _ _ e)) hq)]
          exact r1 _ _ (q1 _ _ e)
end
end Ak
namespace Ak
open PySem L2
local macro_rules | `(tactic| walk_at "no attr") => `(tactic| exact rwF_no _ _ _ (by decide +kernel) (by decide +kernel) (by decide +kernel))
/-! ### the refusals: what each of them is -/
abbrev st_l_some : Stmt := top 10
theorem sc_l_some : FnScope ["_law_deal_here", "_law_signs", "_law_k"] ["_law_deal_here"] (defScope st_l_some) := ⟨rfl, rfl, rfl, by decide +kernel, rfl, by decide +kernel, by decide +kernel⟩
abbrev st_l_made : Stmt := top 11
theorem sc_l_made : FnScope ["_law_deal_here", "_law_n", "_law_m", "_law_word", "_law_name", "_law_some_here"] ["_law_deal_here"] (defScope st_l_made) := ⟨rfl, rfl, rfl, by decide +kernel, rfl, by decide +kernel, by decide +kernel⟩
abbrev st_l_fields : Stmt := top 12
theorem sc_l_fields : FnScope ["_law_k", "_law_one"] ["_law_k", "_law_one"] (defScope st_l_fields) := ⟨rfl, rfl, rfl, by decide +kernel, rfl, by decide +kernel, by decide +kernel⟩
abbrev st_l_sort : Stmt := top 13
theorem sc_l_sort : FnScope ["_law_one", "_law_found", "_law_k"] ["_law_one"] (defScope st_l_sort) := ⟨rfl, rfl, rfl, by decide +kernel, rfl, by decide +kernel, by decide +kernel⟩
abbrev st_nt_init : Stmt := inClass (top 2) 0
theorem sc_nt_init : FnScope ["self", "row"] ["self", "row"] (defScope st_nt_init) := ⟨rfl, rfl, rfl, by decide +kernel, rfl, by decide +kernel, by decide +kernel⟩
abbrev st_np_init : Stmt := inClass (top 3) 0
theorem sc_np_init : FnScope ["self", "word", "name"] ["self", "word", "name"] (defScope st_np_init) := ⟨rfl, rfl, rfl, by decide +kernel, rfl, by decide +kernel, by decide +kernel⟩
abbrev st_nb_init : Stmt := inClass (top 4) 0
theorem sc_nb_init : FnScope ["self", "at"] ["self", "at"] (defScope st_nb_init) := ⟨rfl, rfl, rfl, by decide +kernel, rfl, by decide +kernel, by decide +kernel⟩
abbrev st_law : Stmt := top 14
theorem sc_law : FnScope ["_law_script", "_law_deal_here", "_law_both", "_law_some_here", "_law_k", "_law_one", "_law_fields_here"] ["_law_script"] (defScope st_law) := ⟨rfl, rfl, rfl, by decide +kernel, rfl, by decide +kernel, by decide +kernel⟩
inductive ER where
  | nt (n : Int) | np (a b : Str) | nb (n : Int) | tn | nr
def ER.ix : ER → Nat
  | .nt _ => 0
  | .np _ _ => 1
  | .nb _ => 2
  | .tn => 3
  | .nr => 4
def ER.vals : ER → List V
  | .nt n => [.int n]
  | .np a b => [.str a, .str b]
  | .nb n => [.int n]
  | .tn => []
  | .nr => []
def ER.fs : ER → List (Str × V)
  | .nt n => [("row", .int n)]
  | .np a b => [("name", .str b), ("word", .str a)]
  | .nb n => [("at", .int n)]
  | .tn => []
  | .nr => []
def ER.data : ER → List PyData
  | .nt n => [.int n]
  | .np a b => [.str a, .str b]
  | .nb n => [.int n]
  | .tn => []
  | .nr => []
def SmallI (n : Int) : Prop := 0 ≤ n ∧ n < 1000000000
def SmallS (t : Str) : Prop := t.length ≤ 12 ∧ ∀ c ∈ t.cps.toList, c < 1000
def ER.Ok : ER → Prop
  | .nt n => SmallI n
  | .np a b => SmallS a ∧ SmallS b
  | .nb n => SmallI n
  | .tn => True
  | .nr => True
theorem shown_fits {d : PyData} (h : d.leavesShort 130 = true) (hb : d.bulk ≤ 100) : d.shown.length ≤ sizeLine := by
  have q := PyData.shown_le_bulk 130 (by decide) d h
  refine Nat.le_trans q (Nat.le_trans (Nat.add_le_add_right (Nat.mul_le_mul_left _ hb) _) ?_)
  decide
theorem leaf_int {n : Int} (h : SmallI n) : (PyData.int n).leavesShort 130 = true := by
  obtain ⟨h1, h2⟩ := h
  have q : (PyData.shown (.int n)).length ≤ 13 := PyData.shown_int_le2 (by omega) (by omega)
  simp only [PyData.leavesShort, decide_eq_true_eq]
  omega
theorem leaf_str {t : Str} (h : SmallS t) : (PyData.str t).leavesShort 130 = true := by
  simp only [PyData.leavesShort, List.all_eq_true, decide_eq_true_eq]
  intro c hc
  have := h.2 c hc
  omega
theorem show_int {n : Int} (h : SmallI n) : (PyData.int n).showable = true := by
  obtain ⟨h1, h2⟩ := h
  simp only [PyData.showable, decide_eq_true_eq]
  by_cases z : n.natAbs = 0
  · rw [z]; decide
  · refine (Nat.log2_lt z).mpr (Nat.lt_of_lt_of_le (m := 2 ^ 30) ?_ (Nat.pow_le_pow_right (by decide) (by decide)))
    omega
theorem bulk_str {t : Str} (h : SmallS t) : (PyData.str t).bulk ≤ 12 := h.1
theorem ER.fits (e : ER) (h : e.Ok) : (PyData.tuple e.data).showable = true ∧ (PyData.tuple e.data).hasDict = false ∧ (PyData.tuple e.data).depth ≤ 60 ∧ (PyData.tuple e.data).shown.length ≤ sizeLine := by
  cases e with
  | nt n =>
    have a1 := leaf_int h
    have a2 := show_int h
    exact ⟨by simp only [ER.data, PyData.showable, PyData.showableAll] at a2 ⊢; rw [a2]; rfl, rfl, by simp [ER.data, PyData.depth, PyData.depthAll], shown_fits (by simp only [ER.data, PyData.leavesShort, PyData.leavesShortAll] at a1 ⊢; rw [a1]; rfl) (by simp [ER.data, PyData.bulk, PyData.bulkAll])⟩
  | nb n =>
    have a1 := leaf_int h
    have a2 := show_int h
    exact ⟨by simp only [ER.data, PyData.showable, PyData.showableAll] at a2 ⊢; rw [a2]; rfl, rfl, by simp [ER.data, PyData.depth, PyData.depthAll], shown_fits (by simp only [ER.data, PyData.leavesShort, PyData.leavesShortAll] at a1 ⊢; rw [a1]; rfl) (by simp [ER.data, PyData.bulk, PyData.bulkAll])⟩
  | np a b =>
    have a1 := leaf_str h.1
    have a2 := leaf_str h.2
    have b1 := bulk_str h.1
    have b2 := bulk_str h.2
    refine ⟨rfl, rfl, by simp [ER.data, PyData.depth, PyData.depthAll], shown_fits ?_ ?_⟩
    · simp only [ER.data, PyData.leavesShort, PyData.leavesShortAll] at a1 a2 ⊢
      rw [a1, a2]
      rfl
    · show (PyData.str a).bulk + 1 + ((PyData.str b).bulk + 1 + 0) ≤ 100
      omega
  | tn => exact ⟨rfl, rfl, by decide, by decide⟩
  | nr => exact ⟨rfl, rfl, by decide, by decide⟩
theorem ER.dp {K : PySem.W.Frag} {H : Hp} (e : ER) : DpAll K H e.vals e.data := by
  cases e with
  | nt n => exact .cons (.int n) .nil
  | nb n => exact .cons (.int n) .nil
  | np a b => exact .cons (.str a) (.cons (.str b) .nil)
  | tn => exact .nil
  | nr => exact .nil
/-! ### what the module has -/
structure BltE (K : PySem.W.Frag) (mg : Str → Option Value) (CT CP CB CN CR AE fT fP fB : Addr) (dT dP dB : FuncData) : Prop where
  len : mg "len" = none
  range : mg "range" = none
  isinstance : mg "isinstance" = none
  repr : mg "repr" = none
  ValueError : mg "ValueError" = none
  enumerate : mg "enumerate" = none
  mT : mg "NoText" = some (.ref CT)
  mP : mg "NoProgram" = some (.ref CP)
  mB : mg "NoBook" = some (.ref CB)
  mN : mg "NoTurn" = some (.ref CN)
  mR : mg "NoRow" = some (.ref CR)
  mA : mg "AskError" = some (.ref AE)
  kit : ∀ (i j : Nat) (C D : Addr), [CT, CP, CB, CN, CR][i]? = some C → [CT, CP, CB, CN, CR][j]? = some D → PySem.W.kitOne K (.ref C) (.ref D) = some (decide (i = j))
  ask : ∀ C ∈ [CT, CP, CB, CN, CR], PySem.W.kitOne K (.ref C) (.ref AE) = some true
  val : ∀ C ∈ [CT, CP, CB, CN, CR], PySem.W.kitOne K (.ref C) (.type "ValueError") = some true
  ec : ∀ C ∈ [CT, CP, CB, CN, CR], ExcC K C
  oT : OexC K CT
  oP : OexC K CP
  oB : OexC K CB
  iT : PySem.W.findIn K (.ref CT) "__init__" = some (some (.ref fT))
  iP : PySem.W.findIn K (.ref CP) "__init__" = some (some (.ref fP))
  iB : PySem.W.findIn K (.ref CB) "__init__" = some (some (.ref fB))
  tT : PySem.W.typeIn K (.ref fT) = some (.type "function")
  tP : PySem.W.typeIn K (.ref fP) = some (.type "function")
  tB : PySem.W.typeIn K (.ref fB) = some (.type "function")
  bT : Binds K dT ["self", "row"] []
  bP : Binds K dP ["self", "word", "name"] []
  bB : Binds K dB ["self", "at"] []
  FT : Fun K "__init__" "NoText.__init__" st_nt_init fT dT
  FP : Fun K "__init__" "NoProgram.__init__" st_np_init fP dP
  FB : Fun K "__init__" "NoBook.__init__" st_nb_init fB dB
  nT : PySem.W.findIn K (.ref CT) "row" = some none
  nP : PySem.W.findIn K (.ref CP) "word" = some none
  nQ : PySem.W.findIn K (.ref CP) "name" = some none
  nB : PySem.W.findIn K (.ref CB) "at" = some none
  zN : PySem.W.excIn K CN [.type "ValueError", .type "Exception", .type "BaseException", .type "object"] "ValueError.__new__" = true
  zR : PySem.W.excIn K CR [.type "ValueError", .type "Exception", .type "BaseException", .type "object"] "ValueError.__new__" = true
  kN : PySem.W.keepIn K (.ref CN) = true
  kR : PySem.W.keepIn K (.ref CR) = true
theorem BltE.xf {K : PySem.W.Frag} {mg : Str → Option Value} {CT CP CB CN CR AE fT fP fB : Addr} {dT dP dB : FuncData} (T : BltE K mg CT CP CB CN CR AE fT fP fB dT dP dB) {C : Addr} (h : C ∈ [CT, CP, CB, CN, CR]) : XfC K C :=
  let q := T.ec C h
  ⟨q.hg, q.hk, q.hs, q.hd⟩
/-- the class of a refusal -/
def ER.cls (CT CP CB CN CR : Addr) : ER → Addr
  | .nt _ => CT
  | .np _ _ => CP
  | .nb _ => CB
  | .tn => CN
  | .nr => CR
theorem ER.at (CT CP CB CN CR : Addr) (e : ER) : [CT, CP, CB, CN, CR][e.ix]? = some (e.cls CT CP CB CN CR) := by cases e <;> rfl
theorem ER.mem (CT CP CB CN CR : Addr) (e : ER) : e.cls CT CP CB CN CR ∈ [CT, CP, CB, CN, CR] := List.mem_of_getElem? (e.at CT CP CB CN CR)
/-! ### the inits -/
def spOneF (C : Addr) (n : Str) : Sp := fun vs H Q _ => ∃ (a : Addr) (v : V), vs = [.ref a, v] ∧ H a = some (exo a C none) ∧ ∀ dx, H dx = none → dx ≠ a → Q .non (upd (upd H dx (exd dx [(n, v)])) a (exo a C (some dx)))
def spTwoF (C : Addr) : Sp := fun vs H Q _ => ∃ (a : Addr) (v u : V), vs = [.ref a, v, u] ∧ H a = some (exo a C none) ∧
  ∀ dx, H dx = none → dx ≠ a → Q .non (upd (upd (upd H dx (exd dx [("word", v)])) a (exo a C (some dx))) dx (exd dx [("name", u), ("word", v)]))
def SmallD (d l : Addr) (H : Hp) (t : Str) (H' : Hp) : Prop := SmallS t ∧ DealAt H' d l ∧ Kp d l H H'
def spSomeT : Sp := fun vs H Q _ => ∃ d l : Addr, vs = [.ref d] ∧ DealAt H d l ∧ ∀ (t : Str) (H' : Hp), SmallD d l H t H' → Q (.str t) H'
theorem cps_join (P : Nat → Prop) : ∀ {ys : List Str}, (∀ y ∈ ys, ∀ c ∈ y.cps.toList, P c) → ∀ c ∈ (Str.join Str.empty ys).cps.toList, P c
  | [], _ => fun c hc => by simp [Str.join, Str.empty] at hc
  | [x], h => h x (by simp)
  | x :: y :: r, h => by
    intro c hc
    have hc' : c ∈ ((x.cps ++ Str.empty.cps) ++ (Str.join Str.empty (y :: r)).cps).toList := hc
    simp only [Array.toList_append, List.mem_append] at hc'
    rcases hc' with (hc' | hc') | hc'
    · exact h x (by simp) c hc'
    · simp [Str.empty] at hc'
    · exact cps_join P (fun z hz => h z (List.mem_cons_of_mem _ hz)) c hc'
def sgsE : Str := "abcxyz ABZ0189;:+-*<=().,_~!"
theorem sgs_len : sgsE.length = 28 := by decide +kernel
theorem sgs_low : ∀ c ∈ sgsE.cps.toList, c < 1000 := by decide +kernel
section
variable {P : Program} {w : World} {K : PySem.W.Frag} {mg : Str → Option Value} {base : Heap} {CT CP CB CN CR AE fT fP fB : Addr} {dT dP dB : FuncData}
theorem ok_nt_init {f : Addr} {fd : FuncData} (D : Fun K "__init__" "NoText.__init__" st_nt_init f fd) (oc : OexC K CT) (no : PySem.W.findIn K (.ref CT) "row" = some none) : FnOk P w K mg base CX0 1 f fd ["self", "row"] (spOneF CT "row") := by
  refine D.ok sc_nt_init (fun vs H Q E h => ?_) (fun cdv A outer s H vs Q E hr h => ?_)
  · obtain ⟨a, v, rfl, _⟩ := h
    rfl
  · obtain ⟨a, v, rfl, ha, k⟩ := h
    refine ⟨_, pss_one (ps_ost (pv 0) (pv 1)), ?_⟩
    exact ⟨_, rfl, _, rfl, a, CT, rfl, oc, no, .inl ⟨ha, fun dx hdx ne => k dx hdx ne⟩⟩
theorem ok_nb_init {f : Addr} {fd : FuncData} (D : Fun K "__init__" "NoBook.__init__" st_nb_init f fd) (oc : OexC K CB) (no : PySem.W.findIn K (.ref CB) "at" = some none) : FnOk P w K mg base CX0 1 f fd ["self", "at"] (spOneF CB "at") := by
  refine D.ok sc_nb_init (fun vs H Q E h => ?_) (fun cdv A outer s H vs Q E hr h => ?_)
  · obtain ⟨a, v, rfl, _⟩ := h
    rfl
  · obtain ⟨a, v, rfl, ha, k⟩ := h
    refine ⟨_, pss_one (ps_ost (pv 0) (pv 1)), ?_⟩
    exact ⟨_, rfl, _, rfl, a, CB, rfl, oc, no, .inl ⟨ha, fun dx hdx ne => k dx hdx ne⟩⟩
theorem ok_np_init {f : Addr} {fd : FuncData} (D : Fun K "__init__" "NoProgram.__init__" st_np_init f fd) (oc : OexC K CP) (no1 : PySem.W.findIn K (.ref CP) "word" = some none) (no2 : PySem.W.findIn K (.ref CP) "name" = some none) :
    FnOk P w K mg base CX0 1 f fd ["self", "word", "name"] (spTwoF CP) := by
  refine D.ok sc_np_init (fun vs H Q E h => ?_) (fun cdv A outer s H vs Q E hr h => ?_)
  · obtain ⟨a, v, u, rfl, _⟩ := h
    rfl
  · obtain ⟨a, v, u, rfl, ha, k⟩ := h
    refine ⟨_, pss_cons (ps_ost (pv 0) (pv 1)) (pss_one (ps_ost (pv 0) (pv 2))), ?_⟩
    refine ⟨_, rfl, _, rfl, a, CP, rfl, oc, no1, .inl ⟨ha, fun dx hdx ne => ?_⟩⟩
    refine ⟨_, rfl, _, rfl, a, CP, rfl, oc, no2, .inr ⟨dx, [("word", v)], upd_same, ?_, by show 1 ≤ 900; omega, k dx hdx ne⟩⟩
    rw [upd_ne ne]
    exact upd_same
theorem ok_l_some {f f1 : Addr} {fd d1 : FuncData} (D : Fn K mg "_law_some" st_l_some ["_law_deal_here"] f fd) (T : BltE K mg CT CP CB CN CR AE fT fP fB dT dP dB) (D_l_draw : Fn K mg "_law_draw" st_l_draw ["_law_deal_here", "_law_many"] f1 d1) (G_l_draw : FnOk P w K mg base CX0 1 f1 d1 ["_law_deal_here", "_law_many"] spDraw) :
    FnOk P w K mg base CX0 2 f fd ["_law_deal_here"] spSomeT := by
  refine D.F.ok sc_l_some (fun vs H Q E h => ?_) (fun cdv A outer s H vs Q E hr h => ?_)
  · obtain ⟨d, l, rfl, _⟩ := h
    rfl
  · obtain ⟨d, l, rfl, hD, k⟩ := h
    refine ⟨_, (pss_cons (ps_set (i := 1) sc_l_some.nd rfl (Or.inr rfl) pe_str)
      (pss_one (ps_ret (pe_join pe_str (pe_lc (own := [("_law_k", 2)]) (g := gName 2) (tt := tYes) rfl sc_l_some.nd (pi_range1 rfl T.range (pa_cons (pe_call G_l_draw (hr.mono (by decide)) rfl D_l_draw.mg D_l_draw.kp D_l_draw.b .nil pass0 (pa_cons (pv 0) (pa_cons pe_int pa_nil))) pa_nil)) (blkOk_by (own := [("_law_k", 2)]) (N := ["_law_deal_here", "_law_signs", "_law_k"]) (sc := defScope st_l_some) (by decide +kernel)) (fun _ _ _ _ _ => (pg_name (i := 2) sc_l_some.nd rfl (Or.inl rfl))) (fun _ _ _ _ _ => pts_nil) (fun _ _ _ _ _ => (pe_ix ix_str (pv 1) (pe_call G_l_draw (hr.mono (by decide)) rfl D_l_draw.mg D_l_draw.kp D_l_draw.b .nil pass0 (pa_cons (pv 0) (pa_cons (pe_callB call_len_str (by rfl) T.len (by decide +kernel) (pa_cons (pv 1) pa_nil)) pa_nil))) (fun _ _ => rfl)))))))), ?_⟩
    refine ⟨⟨_, rfl⟩, _, rfl, d, l, 12, rfl, hD, by decide, by decide, fun m H2 m0 m1 D2 k2 => ?_⟩
    refine ⟨m, rfl, by omega, by omega, fun L hL => ?_⟩
    have nL := D2.new hL
    refine lc_range (lo := 0) (n := m.toNat) (fun i H' => DealAt H' d l ∧ Kp d l H H' ∧ ∃ ts : List Str, H' L = some (.lst (ts.map V.str)) ∧ ts.length = i ∧ ∀ t ∈ ts, t.length = 1 ∧ ∀ c ∈ t.cps.toList, c < 1000) ⟨D2.same (Same.new hL), k2.trans (Kp.same (Same.new hL)), [], upd_same, rfl, fun _ z => nomatch z⟩ (fun i H' hi q => ?_) fun H' q => ?_
    · obtain ⟨q1, q2, ts, q3, q4, q5⟩ := q
      refine ⟨rfl, lc_yes ?_⟩
      refine ⟨_, rfl, _, rfl, _, rfl, sgsE, rfl, by rw [sgs_len]; decide, d, l, 28, rfl, q1, by decide, by decide, fun r H3 r0 r1 D3 k3 => ?_⟩
      obtain ⟨cc, hcc, hin⟩ := atI_in (xs := sgsE.cps.toList) r0 (by have := sgs_len; rw [Array.length_toList]; show r < ((sgsE.length : Nat) : Int); omega)
      have h3 := k3 _ _ q3 nL.1 nL.2
      refine ⟨sgsE, _, cc, rfl, rfl, by rw [sgs_len]; decide, hcc, _, h3, small1000 (by simp; omega), D3.upd nL, ?_, ts ++ [⟨#[cc]⟩], by rw [upd_same, List.map_append]; rfl, by simp [q4], ?_⟩
      · exact Kp.mut k2 (q2.trans k3) hL
      · intro t ht
        rcases List.mem_append.mp ht with ht | ht
        · exact q5 t ht
        · rw [List.mem_singleton.mp ht]; exact ⟨rfl, fun c hc => by rw [List.mem_singleton.mp hc]; exact sgs_low _ hin⟩
    · obtain ⟨q1, q2, ts, q3, q4, q5⟩ := q
      have es : (ts.map (·.length)).sum = ts.length := sum_ones fun y hy => (q5 y hy).1
      have jl : (Str.join Str.empty ts).length = ts.length := (join_len ts).trans es
      refine ⟨Str.empty, L, ts, rfl, rfl, .inl (SqL.of q3), by rw [es]; show ts.length + ts.length * 0 ≤ _; omega, ?_⟩
      rw [TL.join_eq]
      exact k _ _ ⟨⟨by rw [jl, q4]; omega, cps_join (· < 1000) fun y hy => (q5 y hy).2⟩, q1, q2⟩
end
end Ak
namespace Ak
open PySem L2
local macro_rules | `(tactic| walk_at "no attr") => `(tactic| exact rwF_no _ _ _ (by decide +kernel) (by decide +kernel) (by decide +kernel))
/-! ### _law_fields, _law_sort -/
def spFieldsE (K : PySem.W.Frag) (CT CP CB CN CR : Addr) : Sp := fun vs H Q _ => ∃ (a : Addr) (e : ER), vs = [.int (e.ix : Int), .ref a] ∧ ErrAt H a (e.cls CT CP CB CN CR) e.fs ∧ ∀ p H', Same H H' → H' p = some (.tup e.vals) → Q (.ref p) H'
def spSortE (CT CP CB CN CR : Addr) : Sp := fun vs H Q _ => ∃ (a : Addr) (e : ER), vs = [.ref a] ∧ ErrAt H a (e.cls CT CP CB CN CR) e.fs ∧ ∀ p H', Same H H' → H' p = some (.lst [.int (e.ix : Int)]) → Q (.ref p) H'
theorem ErrAt.same {H H' : Hp} {a D : Addr} {fs : List (Str × V)} (e : ErrAt H a D fs) (s : Same H H') : ErrAt H' a D fs := by
  rcases e with ⟨dx, e1, e2⟩ | ⟨e1, e2⟩
  · exact .inl ⟨dx, s _ _ e1, s _ _ e2⟩
  · exact .inr ⟨s _ _ e1, e2⟩
theorem ErrAt.dict {H : Hp} {a D : Addr} {p : Str × V} {fs : List (Str × V)} (e : ErrAt H a D (p :: fs)) : ∃ dx, H a = some (exo a D (some dx)) ∧ H dx = some (exd dx (p :: fs)) := by
  rcases e with h | ⟨_, h⟩
  · exact h
  · cases h
section
variable {P : Program} {w : World} {K : PySem.W.Frag} {mg : Str → Option Value} {base : Heap} {CT CP CB CN CR AE fT fP fB : Addr} {dT dP dB : FuncData}
theorem ok_l_fields {f : Addr} {fd : FuncData} (D : Fn K mg "_law_fields" st_l_fields ["_law_k", "_law_one"] f fd) (T : BltE K mg CT CP CB CN CR AE fT fP fB dT dP dB) :
    FnOk P w K mg base CX0 1 f fd ["_law_k", "_law_one"] (spFieldsE K CT CP CB CN CR) := by
  refine D.F.ok sc_l_fields (fun vs H Q E h => ?_) (fun cdv A outer s H vs Q E hr h => ?_)
  · obtain ⟨a, e, rfl, _⟩ := h
    rfl
  · obtain ⟨a, e, rfl, at_a, k⟩ := h
    have hu := hu_of hr
    refine ⟨_, (pss_cons (ps_if (pt_cmpR op_eq (pv 0) pe_int (nomark _)) (pss_one (ps_ret (pe_tup (pa_cons (pe_errF (pv 1)) pa_nil)))) pss_nil)
      (pss_cons (ps_if (pt_cmpR op_eq (pv 0) pe_int (nomark _)) (pss_one (ps_ret (pe_tup (pa_cons (pe_errF (pv 1)) (pa_cons (pe_errF (pv 1)) pa_nil))))) pss_nil)
      (pss_cons (ps_if (pt_cmpR op_eq (pv 0) pe_int (nomark _)) (pss_one (ps_ret (pe_tup (pa_cons (pe_errF (pv 1)) pa_nil)))) pss_nil)
      (pss_one (ps_ret (pe_tup pa_nil)))))), ?_⟩
    have end1 : ∀ p, H p = none → Q (.ref p) (upd H p (.tup e.vals)) := fun p hp => k p _ (Same.new hp) upd_same
    have T0 : ∀ {C : Addr}, C ∈ [CT, CP, CB, CN, CR] → XfC K C := T.xf
    cases e with
    | nt n =>
      obtain ⟨dx, e1, e2⟩ := at_a.dict
      refine ⟨_, rfl, rfl, _, rfl, iteT ?_⟩
      refine ⟨_, rfl, a, CT, dx, _, .int n, rfl, T0 (by simp), T.nT, e1, e2, rfl, by show 1 ≤ sizeLine; decide, end1⟩
    | np x y =>
      obtain ⟨dx, e1, e2⟩ := at_a.dict
      refine ⟨_, rfl, rfl, _, rfl, iteF ⟨_, rfl, rfl, _, rfl, iteT ?_⟩⟩
      refine ⟨_, rfl, a, CP, dx, _, .str x, rfl, T0 (by simp), T.nP, e1, e2, rfl, ?_⟩
      refine ⟨_, rfl, a, CP, dx, _, .str y, rfl, T0 (by simp), T.nQ, e1, e2, rfl, by show 2 ≤ sizeLine; decide, end1⟩
    | nb n =>
      obtain ⟨dx, e1, e2⟩ := at_a.dict
      refine ⟨_, rfl, rfl, _, rfl, iteF ⟨_, rfl, rfl, _, rfl, iteF ⟨_, rfl, rfl, _, rfl, iteT ?_⟩⟩⟩
      refine ⟨_, rfl, a, CB, dx, _, .int n, rfl, T0 (by simp), T.nB, e1, e2, rfl, by show 1 ≤ sizeLine; decide, end1⟩
    | tn => exact ⟨_, rfl, rfl, _, rfl, iteF ⟨_, rfl, rfl, _, rfl, iteF ⟨_, rfl, rfl, _, rfl, iteF ⟨by show 0 ≤ sizeLine; decide, end1⟩⟩⟩⟩
    | nr => exact ⟨_, rfl, rfl, _, rfl, iteF ⟨_, rfl, rfl, _, rfl, iteF ⟨_, rfl, rfl, _, rfl, iteF ⟨by show 0 ≤ sizeLine; decide, end1⟩⟩⟩⟩
theorem ok_l_sort {f : Addr} {fd : FuncData} (D : Fn K mg "_law_sort" st_l_sort ["_law_one"] f fd) (T : BltE K mg CT CP CB CN CR AE fT fP fB dT dP dB) :
    FnOk P w K mg base CX0 1 f fd ["_law_one"] (spSortE CT CP CB CN CR) := by
  refine D.F.ok sc_l_sort (fun vs H Q E h => ?_) (fun cdv A outer s H vs Q E hr h => ?_)
  · obtain ⟨a, e, rfl, _⟩ := h
    rfl
  · obtain ⟨a, e, rfl, at_a, k⟩ := h
    have hu := hu_of hr
    refine ⟨_, (pss_cons (ps_set (i := 1) sc_l_sort.nd rfl (Or.inr rfl) (pe_lst (pa_cons (pe_callB call_isV (by rfl) T.isinstance (by decide +kernel) (pa_cons (pv 0) (pa_cons (pe_glob (v := .ref CT) rfl T.mT rfl) pa_nil))) (pa_cons (pe_callB call_isV (by rfl) T.isinstance (by decide +kernel) (pa_cons (pv 0) (pa_cons (pe_glob (v := .ref CP) rfl T.mP rfl) pa_nil))) (pa_cons (pe_callB call_isV (by rfl) T.isinstance (by decide +kernel) (pa_cons (pv 0) (pa_cons (pe_glob (v := .ref CB) rfl T.mB rfl) pa_nil))) (pa_cons (pe_callB call_isV (by rfl) T.isinstance (by decide +kernel) (pa_cons (pv 0) (pa_cons (pe_glob (v := .ref CN) rfl T.mN rfl) pa_nil))) pa_nil))))))
      (pss_cons (ps_expr (pe_bm PySem.F.plainAttrs_list PySem.F.slot_list_append PySem.F.type_list_append mt_append (pv 1) (pa_cons (pe_callB call_isV (by rfl) T.isinstance (by decide +kernel) (pa_cons (pv 0) (pa_cons (pe_glob (v := .ref CR) rfl T.mR rfl) pa_nil))) pa_nil)))
      (pss_one (ps_ret (pe_lc (own := [("_law_k", 2)]) (g := gName 2) (tt := tTest (tOp (rIxL K) (tVar 1) (tVar 2))) (te := (tVar 2)) rfl sc_l_sort.nd (pi_range1 rfl T.range (pa_cons pe_int pa_nil)) (blkOk_by (own := [("_law_k", 2)]) (N := ["_law_one", "_law_found", "_law_k"]) (sc := defScope st_l_sort) (by decide +kernel)) (fun _ _ _ _ _ => (pg_name (i := 2) sc_l_sort.nd rfl (Or.inl rfl))) (fun _ _ _ _ _ => (pts_one (pt_val (pe_ix ix_list (pv 1) (pv 2) (fun _ _ => rfl))))) (fun _ _ _ _ _ => (pv 2))))))), ?_⟩
    have ec : ExcC K (e.cls CT CP CB CN CR) := T.ec _ (e.mem CT CP CB CN CR)
    have at_e := e.at CT CP CB CN CR
    refine ⟨_, rfl, a, _, _, .ref CT, .ref CT, _, rfl, at_a.same (Same.refl _), ec, (fun u h => h), T.kit _ 0 _ _ at_e rfl, _, rfl, a, _, _, .ref CP, .ref CP, _, rfl, at_a.same (Same.refl _), ec, (fun u h => h), T.kit _ 1 _ _ at_e rfl, _, rfl, a, _, _, .ref CB, .ref CB, _, rfl, at_a.same (Same.refl _), ec, (fun u h => h), T.kit _ 2 _ _ at_e rfl, _, rfl, a, _, _, .ref CN, .ref CN, _, rfl, at_a.same (Same.refl _), ec, (fun u h => h), T.kit _ 3 _ _ at_e rfl, by show 4 ≤ sizeLine; decide, fun p hp => ?_⟩
    refine ⟨_, rfl, .inl ⟨rfl, _, SqL.of upd_same⟩, _, rfl, a, _, _, .ref CR, .ref CR, _, rfl, at_a.same (Same.new hp), ec, (fun u h => h), T.kit _ 4 _ _ at_e rfl, ?_⟩
    refine ⟨p, _, _, rfl, rfl, upd_same, by show 4 < sizeLine; decide, ?_⟩
    rw [upd_upd]
    have all : ([.bl (decide (e.ix = 0)), .bl (decide (e.ix = 1)), .bl (decide (e.ix = 2)), .bl (decide (e.ix = 3))] ++ [V.bl (decide (e.ix = 4))]) = (List.range 5).map fun j => V.bl (decide (e.ix = j)) := rfl
    rw [all]
    refine ⟨5, rfl, by decide, by decide, fun L hL => ?_⟩
    have npL : L ≠ p := fun z => by rw [z, upd_same] at hL; cases hL
    have nL : H L = none := by rw [upd_ne npL] at hL; exact hL
    refine lc_range (lo := 0) (n := 5) (fun i H' => Same H H' ∧ H' p = some (.lst ((List.range 5).map fun j => V.bl (decide (e.ix = j)))) ∧ H' L = some (.lst (((List.range i).filter fun j => decide (e.ix = j)).map fun j : Nat => V.int (j : Int)))) ⟨?_, ?_, upd_same⟩ (fun i H' hi q => ?_) fun H' q => ?_
    · exact (Same.new hp).trans (Same.new hL)
    · rw [upd_ne npL.symm]
      exact upd_same
    · obtain ⟨q1, q2, q3⟩ := q
      have hi5 : i < 5 := hi
      have look : ((List.range 5).map fun j => V.bl (decide (e.ix = j)))[i]? = some (.bl (decide (e.ix = i))) := by
        rw [List.getElem?_map, List.getElem?_range hi5]
        rfl
      refine ⟨rfl, ?_⟩
      have i0 : (0 : Int) + (i : Int) = (i : Int) := by omega
      rw [i0]
      refine ⟨_, rfl, _, rfl, p, _, _, _, rfl, rfl, SqL.of q2, atI_nat look, _, rfl, ?_⟩
      by_cases c : e.ix = i
      · rw [decide_eq_true c]
        refine iteT ?_
        refine ⟨_, rfl, _, q3, small1000 ?_, ?_, ?_, ?_⟩
        · rw [List.length_map]
          have := List.length_filter_le (fun j => decide (e.ix = j)) (List.range i)
          rw [List.length_range] at this
          omega
        · exact fun b o z => by rw [upd_ne (ne_of_none z nL)]; exact q1 b o z
        · rw [upd_ne npL.symm]; exact q2
        · rw [upd_same, List.range_succ, List.filter_append, List.map_append]
          have one : List.filter (fun j => decide (e.ix = j)) [i] = [i] := by simp [c]
          rw [one]
          rfl
      · rw [decide_eq_false c]
        refine iteF ?_
        refine ⟨q1, q2, ?_⟩
        rw [List.range_succ, List.filter_append]
        have one : List.filter (fun j => decide (e.ix = j)) [i] = [] := by simp [c]
        rw [one, List.append_nil]
        exact q3
    · obtain ⟨q1, q2, q3⟩ := q
      refine k L _ q1 (q3.trans ?_)
      cases e <;> rfl
end
end Ak
namespace Ak
open PySem L2
local macro_rules | `(tactic| walk_at "no attr") => `(tactic| exact rwF_no _ _ _ (by decide +kernel) (by decide +kernel) (by decide +kernel))
/-! ### _law_made -/
section
variable (CT CP CB CN CR : Addr)
def MadeAt (H : Hp) (e : ER) (v : V) : Prop := ∃ T p a : Addr, v = .ref T ∧ H T = some (.tup [.ref a, .ref p]) ∧ ErrAt H a (e.cls CT CP CB CN CR) e.fs ∧ H p = some (.tup e.vals) ∧ e.Ok
def MadeAll (H : Hp) (L : Addr) : Prop := ∃ (us : List V) (es : List ER), H L = some (.lst us) ∧ Paired (MadeAt CT CP CB CN CR H) es us ∧ es.map ER.ix = [0, 1, 2, 3, 4]
def spMade : Sp := fun vs H Q _ => ∃ d l : Addr, vs = [.ref d] ∧ DealAt H d l ∧ ∀ (L : Addr) (H' : Hp), H L = none → MadeAll CT CP CB CN CR H' L → DealAt H' d l → Kp d l H H' → Q (.ref L) H'
end
section
variable {CT CP CB CN CR : Addr}
theorem MadeAt.same {H H' : Hp} {e : ER} {v : V} (s : Same H H') (h : MadeAt CT CP CB CN CR H e v) : MadeAt CT CP CB CN CR H' e v := by
  obtain ⟨T, p, a, rfl, h1, h2, h3, ok⟩ := h
  exact ⟨T, p, a, rfl, s _ _ h1, h2.same s, s _ _ h3, ok⟩
theorem MadeAt.kp {d l : Addr} {H H' : Hp} {e : ER} {v : V} (D : DealAt H d l) (s : Kp d l H H') (h : MadeAt CT CP CB CN CR H e v) : MadeAt CT CP CB CN CR H' e v := by
  obtain ⟨T, p, a, rfl, h1, h2, h3, ok⟩ := h
  have go : ∀ {b : Addr} {o : HO}, H b = some o → (∀ kvs, o ≠ .dK kvs) → (∀ xs, o ≠ .lst xs) → H' b = some o := fun {b o} e n1 n2 => s _ _ e (D.not e n1 n2).1 (D.not e n1 n2).2
  refine ⟨T, p, a, rfl, go h1 (fun _ z => nomatch z) (fun _ z => nomatch z), ?_, go h3 (fun _ z => nomatch z) (fun _ z => nomatch z), ok⟩
  rcases h2 with ⟨dx, e1, e2⟩ | ⟨e1, e2⟩
  · exact .inl ⟨dx, go e1 (fun _ z => nomatch z) (fun _ z => nomatch z), go e2 (fun _ z => nomatch z) (fun _ z => nomatch z)⟩
  · exact .inr ⟨go e1 (fun _ z => nomatch z) (fun _ z => nomatch z), e2⟩
theorem MadeAll.same {H H' : Hp} {L : Addr} (s : Same H H') (h : MadeAll CT CP CB CN CR H L) : MadeAll CT CP CB CN CR H' L := by
  obtain ⟨us, es, h1, h2, h3⟩ := h
  exact ⟨us, es, s _ _ h1, L2.Paired.mapP h2 fun _ _ => MadeAt.same s, h3⟩
theorem MadeAll.kp {d l : Addr} {H H' : Hp} {L : Addr} (D : DealAt H d l) (s : Kp d l H H') (n1 : L ≠ d) (n2 : L ≠ l) (h : MadeAll CT CP CB CN CR H L) : MadeAll CT CP CB CN CR H' L := by
  obtain ⟨us, es, h1, h2, h3⟩ := h
  exact ⟨us, es, s _ _ h1 n1 n2, L2.Paired.mapP h2 fun _ _ => MadeAt.kp D s, h3⟩
theorem made_mk {H H1 : Hp} {a p T : Addr} (e : ER) (s : Same H H1) (err : ErrAt H1 a (e.cls CT CP CB CN CR) e.fs) (ok : e.Ok) (hp : H1 p = none) (hT : (upd H1 p (.tup e.vals)) T = none) :
    Same H (upd (upd H1 p (.tup e.vals)) T (.tup [.ref a, .ref p])) ∧ MadeAt CT CP CB CN CR (upd (upd H1 p (.tup e.vals)) T (.tup [.ref a, .ref p])) e (.ref T) := by
  have s1 : Same H1 (upd H1 p (.tup e.vals)) := Same.new hp
  have s2 := s1.trans (Same.new (o := .tup [.ref a, .ref p]) hT)
  exact ⟨s.trans s2, T, p, a, rfl, upd_same, err.same s2, Same.new hT _ _ upd_same, ok⟩
theorem oneF_use {H : Hp} {a C : Addr} {n : Str} {v : V} {R : Hp → Prop} {E : XK} (ha : H a = none) (k : ∀ H1, Same H H1 → ErrAt H1 a C [(n, v)] → R H1) :
    spOneF C n [.ref a, v] (upd H a (exo a C none)) (fun u H2 => u = .non ∧ R H2) E := by
  refine ⟨a, v, rfl, upd_same, fun dx hdx ne => ⟨rfl, k _ (fun b o z => ?_) (.inl ⟨dx, upd_same, ?_⟩)⟩⟩
  · rw [upd_ne (ne_of_none z ha), upd_ne (fun y => by rw [y] at z; rw [upd_ne ne, z] at hdx; cases hdx), upd_ne (ne_of_none z ha)]
    exact z
  · rw [upd_ne ne]
    exact upd_same
theorem twoF_use {H : Hp} {a C : Addr} {v u : V} {R : Hp → Prop} {E : XK} (ha : H a = none) (k : ∀ H1, Same H H1 → ErrAt H1 a C [("name", u), ("word", v)] → R H1) :
    spTwoF C [.ref a, v, u] (upd H a (exo a C none)) (fun u H2 => u = .non ∧ R H2) E := by
  refine ⟨a, v, u, rfl, upd_same, fun dx hdx ne => ⟨rfl, k _ (fun b o z => ?_) (.inl ⟨dx, ?_, upd_same⟩)⟩⟩
  · have nb : b ≠ dx := fun y => by
      rw [y] at z
      rw [upd_ne ne, z] at hdx
      cases hdx
    rw [upd_ne nb, upd_ne (ne_of_none z ha), upd_ne nb, upd_ne (ne_of_none z ha)]
    exact z
  · rw [upd_ne ne.symm]
    exact upd_same
theorem zeroF {H : Hp} {a C : Addr} (ha : H a = none) : Same H (upd H a (ExO (.ref C) a)) ∧ ErrAt (upd H a (ExO (.ref C) a)) a C [] := ⟨Same.new ha, .inr ⟨upd_same, rfl⟩⟩
end
section
variable {P : Program} {w : World} {K : PySem.W.Frag} {mg : Str → Option Value} {base : Heap} {CT CP CB CN CR AE fT fP fB : Addr} {dT dP dB : FuncData}
theorem ok_l_made {f f1 f2 : Addr} {fd d1 d2 : FuncData} (D : Fn K mg "_law_made" st_l_made ["_law_deal_here"] f fd) (T : BltE K mg CT CP CB CN CR AE fT fP fB dT dP dB)
    (D_l_draw : Fn K mg "_law_draw" st_l_draw ["_law_deal_here", "_law_many"] f1 d1) (G_l_draw : FnOk P w K mg base CX0 1 f1 d1 ["_law_deal_here", "_law_many"] spDraw)
    (D_l_some : Fn K mg "_law_some" st_l_some ["_law_deal_here"] f2 d2) (G_l_some : FnOk P w K mg base CX0 2 f2 d2 ["_law_deal_here"] spSomeT) :
    FnOk P w K mg base CX0 3 f fd ["_law_deal_here"] (spMade CT CP CB CN CR) := by
  have G_nt_init : FnOk P w K mg base CX0 1 fT dT ["self", "row"] (spOneF CT "row") := ok_nt_init T.FT T.oT T.nT
  have G_np_init : FnOk P w K mg base CX0 1 fP dP ["self", "word", "name"] (spTwoF CP) := ok_np_init T.FP T.oP T.nP T.nQ
  have G_nb_init : FnOk P w K mg base CX0 1 fB dB ["self", "at"] (spOneF CB "at") := ok_nb_init T.FB T.oB T.nB
  refine D.F.ok sc_l_made (fun vs H Q E h => ?_) (fun cdv A outer s H vs Q E hr h => ?_)
  · obtain ⟨d, l, rfl, _⟩ := h
    rfl
  · obtain ⟨d, l, rfl, hD, k⟩ := h
    have hu := hu_of hr
    refine ⟨_, (pss_cons (ps_set (i := 1) sc_l_made.nd rfl (Or.inl rfl) (pe_call G_l_draw (hr.mono (by decide)) rfl D_l_draw.mg D_l_draw.kp D_l_draw.b .nil pass0 (pa_cons (pv 0) (pa_cons (pe_op op_pow pe_int pe_int) pa_nil))))
      (pss_cons (ps_set (i := 2) sc_l_made.nd rfl (Or.inl rfl) (pe_call G_l_draw (hr.mono (by decide)) rfl D_l_draw.mg D_l_draw.kp D_l_draw.b .nil pass0 (pa_cons (pv 0) (pa_cons pe_int pa_nil))))
      (pss_cons (ps_par (i := 3) (j := 4) (by rfl) sc_l_made.nd rfl rfl (by decide) rfl rfl (pa_cons (pe_call G_l_some (hr.mono (by decide)) rfl D_l_some.mg D_l_some.kp D_l_some.b .nil pass0 (pa_cons (pv 0) pa_nil)) (pa_cons (pe_call G_l_some (hr.mono (by decide)) rfl D_l_some.mg D_l_some.kp D_l_some.b .nil pass0 (pa_cons (pv 0) pa_nil)) pa_nil)) (by rfl))
      (pss_cons (ps_set (i := 5) sc_l_made.nd rfl (Or.inl rfl) (pe_lst (pa_cons (pe_tup (pa_cons (pe_errI T.oT T.iT T.tT G_nt_init (hr.mono (by decide)) T.bT (by rfl) T.mT (pa_cons (pv 1) pa_nil)) (pa_cons (pe_tup (pa_cons (pv 1) pa_nil)) pa_nil))) (pa_cons (pe_tup (pa_cons (pe_errI T.oP T.iP T.tP G_np_init (hr.mono (by decide)) T.bP (by rfl) T.mP (pa_cons (pv 3) (pa_cons (pv 4) pa_nil))) (pa_cons (pe_tup (pa_cons (pv 3) (pa_cons (pv 4) pa_nil))) pa_nil))) (pa_cons (pe_tup (pa_cons (pe_errI T.oB T.iB T.tB G_nb_init (hr.mono (by decide)) T.bB (by rfl) T.mB (pa_cons (pv 2) pa_nil)) (pa_cons (pe_tup (pa_cons (pv 2) pa_nil)) pa_nil))) pa_nil)))))
      (pss_one (ps_ret (pe_op op_cat (pv 5) (pe_lst (pa_cons (pe_tup (pa_cons (pe_err0 PySem.F.excBase_ValueError T.zN T.mN T.kN (by rfl)) (pa_cons (pe_tup pa_nil) pa_nil))) (pa_cons (pe_tup (pa_cons (pe_err0 PySem.F.excBase_ValueError T.zR T.mR T.kR (by rfl)) (pa_cons (pe_tup pa_nil) pa_nil))) pa_nil)))))))))), ?_⟩
    refine ⟨_, rfl, _, _, rfl, rfl, ⟨by decide, by decide, by decide⟩, d, l, 10 ^ 9, rfl, hD, by decide +kernel, by decide +kernel, fun n H1 n0 n1 D1 k1 => ?_⟩
    refine ⟨_, rfl, d, l, 2000, rfl, D1, by decide, by decide, fun m H2 m0 m1 D2 k2 => ?_⟩
    refine ⟨_, rfl, d, l, rfl, D2, fun x H3 ⟨sx, D3, k3⟩ => ?_⟩
    refine ⟨_, rfl, d, l, rfl, D3, fun y H4 ⟨sy, D4, k4⟩ => ?_⟩
    have kp4 : Kp d l H H4 := k1.trans (k2.trans (k3.trans k4))
    clear k1 k2 k3 k4
    have n1 : n < 1000000000 := n1
    refine ⟨_, _, rfl, ?_⟩
    refine ⟨_, rfl, by show 1 ≤ 1000; decide, fun a1 ha1 => oneF_use ha1 fun A1 s1 e1 => ?_⟩
    refine ⟨_, rfl, by show 1 ≤ sizeLine; decide, fun p1 hp1 => ⟨by show 2 ≤ sizeLine; decide, fun T1 hT1 => ?_⟩⟩
    have q1 := made_mk (CT := CT) (CP := CP) (CB := CB) (CN := CN) (CR := CR) (.nt n) s1 e1 ⟨n0, by omega⟩ hp1 hT1
    simp only [ER.vals] at q1
    generalize upd (upd A1 p1 _) T1 _ = B1 at q1 ⊢
    obtain ⟨g1, m1⟩ := q1
    refine ⟨_, rfl, _, rfl, by show 2 ≤ 1000; decide, fun a2 ha2 => twoF_use ha2 fun A2 s2 e2 => ?_⟩
    refine ⟨_, rfl, _, rfl, by show 2 ≤ sizeLine; decide, fun p2 hp2 => ⟨by show 2 ≤ sizeLine; decide, fun T2 hT2 => ?_⟩⟩
    have q2 := made_mk (CT := CT) (CP := CP) (CB := CB) (CN := CN) (CR := CR) (.np x y) s2 e2 ⟨sx, sy⟩ hp2 hT2
    simp only [ER.vals] at q2
    generalize upd (upd A2 p2 _) T2 _ = B2 at q2 ⊢
    obtain ⟨g2, m2⟩ := q2
    refine ⟨_, rfl, by show 1 ≤ 1000; decide, fun a3 ha3 => oneF_use ha3 fun A3 s3 e3 => ?_⟩
    refine ⟨_, rfl, by show 1 ≤ sizeLine; decide, fun p3 hp3 => ⟨by show 2 ≤ sizeLine; decide, fun T3 hT3 => ?_⟩⟩
    have q3 := made_mk (CT := CT) (CP := CP) (CB := CB) (CN := CN) (CR := CR) (.nb m) s3 e3 ⟨m0, by omega⟩ hp3 hT3
    simp only [ER.vals] at q3
    generalize upd (upd A3 p3 _) T3 _ = B3 at q3 ⊢
    obtain ⟨g3, m3⟩ := q3
    refine ⟨by show 3 ≤ sizeLine; decide, fun L1 hL1 => ?_⟩
    have g4 : Same B3 (upd B3 L1 (.lst [.ref T1, .ref T2, .ref T3])) := Same.new hL1
    refine ⟨_, rfl, ?_⟩
    have here : (upd B3 L1 (.lst [.ref T1, .ref T2, .ref T3])) L1 = some (.lst [.ref T1, .ref T2, .ref T3]) := upd_same
    generalize upd B3 L1 (.lst [.ref T1, .ref T2, .ref T3]) = B4 at g4 here ⊢
    intro a5 ha5
    have z5 := zeroF (C := CN) ha5
    generalize upd B4 a5 (ExO (.ref CN) a5) = A5 at z5 ⊢
    obtain ⟨s5, e5⟩ := z5
    refine ⟨by show 0 ≤ sizeLine; decide, fun p5 hp5 => ⟨by show 2 ≤ sizeLine; decide, fun T5 hT5 => ?_⟩⟩
    have q5 := made_mk (CT := CT) (CP := CP) (CB := CB) (CN := CN) (CR := CR) .tn s5 e5 trivial hp5 hT5
    simp only [ER.vals] at q5
    generalize upd (upd A5 p5 _) T5 _ = B6 at q5 ⊢
    obtain ⟨g5, m5⟩ := q5
    intro a7 ha7
    have z7 := zeroF (C := CR) ha7
    generalize upd B6 a7 (ExO (.ref CR) a7) = A7 at z7 ⊢
    obtain ⟨s7, e7⟩ := z7
    refine ⟨by show 0 ≤ sizeLine; decide, fun p7 hp7 => ⟨by show 2 ≤ sizeLine; decide, fun T7 hT7 => ?_⟩⟩
    have q7 := made_mk (CT := CT) (CP := CP) (CB := CB) (CN := CN) (CR := CR) .nr s7 e7 trivial hp7 hT7
    simp only [ER.vals] at q7
    generalize upd (upd A7 p7 _) T7 _ = B8 at q7 ⊢
    obtain ⟨g7, m7⟩ := q7
    refine ⟨by show 2 ≤ sizeLine; decide, fun L2 hL2 => ?_⟩
    have s8 : Same B8 (upd B8 L2 (.lst [.ref T5, .ref T7])) := Same.new hL2
    have ne : L1 ≠ L2 := ne_of_none (g7 _ _ (g5 _ _ here)) hL2
    refine ⟨L1, L2, _, _, rfl, rfl, s8 _ _ (g7 _ _ (g5 _ _ here)), upd_same, by show 3 + 2 ≤ sizeLine; decide, fun L hL => ?_⟩
    have s9 := s8.trans (Same.new (o := .lst ([.ref T1, .ref T2, .ref T3] ++ [.ref T5, .ref T7])) hL)
    have t5 := g7.trans s9
    have t4 := g5.trans t5
    have t3 := g4.trans t4
    have t2 := g3.trans t3
    have t1 := g2.trans t2
    have t0 := g1.trans t1
    have free : H L = none := by
      cases z : H L with
      | none => rfl
      | some o =>
        by_cases c1 : L = d
        · obtain ⟨_, _, _, _, _, _, _, z1, _⟩ := D4
          rw [c1, s8 _ _ (g7 _ _ (g5 _ _ (g4 _ _ (g3 _ _ (g2 _ _ (g1 _ _ z1))))))] at hL
          cases hL
        · by_cases c2 : L = l
          · obtain ⟨_, _, _, _, _, _, _, _, z1⟩ := D4
            rw [c2, s8 _ _ (g7 _ _ (g5 _ _ (g4 _ _ (g3 _ _ (g2 _ _ (g1 _ _ z1))))))] at hL
            cases hL
          · rw [s8 _ _ (g7 _ _ (g5 _ _ (g4 _ _ (g3 _ _ (g2 _ _ (g1 _ _ (kp4 _ _ z c1 c2)))))))] at hL
            cases hL
    refine k L _ free ⟨_, [.nt n, .np x y, .nb m, .tn, .nr], upd_same, ?_, rfl⟩ (D4.same t0) (kp4.trans (Kp.same t0))
    exact .cons (m1.same t1) (.cons (m2.same t2) (.cons (m3.same t3) (.cons (m5.same t5) (.cons (m7.same s9) .nil))))
end
end Ak
namespace Ak
open PySem L2
local macro_rules | `(tactic| walk_at "no attr") => `(tactic| exact rwF_no _ _ _ (by decide +kernel) (by decide +kernel) (by decide +kernel))
/-! ### the law -/
def spLaw (K : PySem.W.Frag) : Sp := fun vs H Q _ => ∃ (a : Addr) (ns : List Int), vs = [.ref a] ∧ SqL K H a (ns.map V.int) ∧ ns.length ≤ 63 ∧ ∀ H', Q (.bl true) H'
theorem pair_get {α β : Type} {F : α → β → Prop} : ∀ {xs : List α} {ys : List β} {i : Nat} {y : β}, Paired F xs ys → ys[i]? = some y → ∃ x, xs[i]? = some x ∧ F x y
  | _, _, _, _, .nil, h => by cases h
  | _, _, 0, _, .cons r _, h => by
    cases h
    exact ⟨_, rfl, r⟩
  | _, _, i + 1, y, .cons _ t, h => by
    obtain ⟨x, e, r⟩ := pair_get (i := i) t (by simpa using h)
    exact ⟨x, by simpa using e, r⟩
theorem ix_of {es : List ER} {e : ER} {j : Nat} (h : es.map ER.ix = [0, 1, 2, 3, 4]) (he : es[j]? = some e) : e.ix = j := by
  have q : (es.map ER.ix)[j]? = some e.ix := by rw [List.getElem?_map, he]; rfl
  rw [h] at q
  match j, q with
  | 0, q => exact (Option.some.inj q).symm
  | 1, q => exact (Option.some.inj q).symm
  | 2, q => exact (Option.some.inj q).symm
  | 3, q => exact (Option.some.inj q).symm
  | 4, q => exact (Option.some.inj q).symm
  | _ + 5, q => cases q
section
variable {P : Program} {w : World} {K : PySem.W.Frag} {mg : Str → Option Value} {base : Heap} {CT CP CB CN CR AE fT fP fB : Addr} {dT dP dB : FuncData}
set_option maxHeartbeats 4000000 in
theorem ok_law {f f1 f2 f3 f4 f5 f6 : Addr} {fd d1 d2 d3 d4 d5 d6 : FuncData} (D : Fn K mg "law" st_law ["_law_script"] f fd) (T : BltE K mg CT CP CB CN CR AE fT fP fB dT dP dB) (TD : BltD mg)
    (D_l_deal : Fn K mg "_law_deal" st_l_deal ["_law_script", "_law_base"] f1 d1) (D_l_draw : Fn K mg "_law_draw" st_l_draw ["_law_deal_here", "_law_many"] f2 d2) (D_l_some : Fn K mg "_law_some" st_l_some ["_law_deal_here"] f3 d3)
    (D_l_made : Fn K mg "_law_made" st_l_made ["_law_deal_here"] f4 d4) (D_l_fields : Fn K mg "_law_fields" st_l_fields ["_law_k", "_law_one"] f5 d5) (D_l_sort : Fn K mg "_law_sort" st_l_sort ["_law_one"] f6 d6) :
    RunAt callerA P w K mg base 5 f fd ["_law_script"] (spLaw K) := by
  have G_l_deal : FnOk P w K mg base CX0 1 f1 d1 _ (spDeal K) := ok_deal D_l_deal TD
  have G_l_draw : FnOk P w K mg base CX0 1 f2 d2 _ spDraw := ok_draw D_l_draw TD
  have G_l_some : FnOk P w K mg base CX0 2 f3 d3 _ spSomeT := ok_l_some D_l_some T D_l_draw G_l_draw
  have G_l_made : FnOk P w K mg base CX0 3 f4 d4 _ (spMade CT CP CB CN CR) := ok_l_made D_l_made T D_l_draw G_l_draw D_l_some G_l_some
  have G_l_fields : FnOk P w K mg base CX0 1 f5 d5 _ (spFieldsE K CT CP CB CN CR) := ok_l_fields D_l_fields T
  have G_l_sort : FnOk P w K mg base CX0 1 f6 d6 _ (spSortE CT CP CB CN CR) := ok_l_sort D_l_sort T
  refine fun_at D.F sc_law (fun vs H Q E h => ?_) (fun cdv outer s H vs Q E hr h => ?_)
  · obtain ⟨a, ns, rfl, _⟩ := h
    rfl
  · obtain ⟨a, ns, rfl, hS, hlen, k⟩ := h
    have hu := hu_of hr
    refine ⟨_, (pss_cons (ps_set (i := 1) sc_law.nd rfl (Or.inl rfl) (pe_call G_l_deal (hr.mono (by decide)) rfl D_l_deal.mg D_l_deal.kp D_l_deal.b .nil pass0 (pa_cons (pv 0) (pa_cons pe_int pa_nil))))
      (pss_cons (ps_set (i := 2) sc_law.nd rfl (Or.inl rfl) (pe_lst (pa_cons (pe_call G_l_made (hr.mono (by decide)) rfl D_l_made.mg D_l_made.kp D_l_made.b .nil pass0 (pa_cons (pv 1) pa_nil)) (pa_cons (pe_call G_l_made (hr.mono (by decide)) rfl D_l_made.mg D_l_made.kp D_l_made.b .nil pass0 (pa_cons (pv 1) pa_nil)) pa_nil))))
      (pss_cons (ps_for PassesOwn.never rfl (pi_list (pe_op op_cat (pv 2) (pe_slice sl_list (pv 2) po_none (po_some pe_int)))) (pg_name (i := 3) sc_law.nd rfl (Or.inl rfl)) (pss_one (ps_for PassesOwn.never rfl (pi_enum (by rfl) T.enumerate (pa_cons (pv 3) pa_nil)) (pg_tup (by rfl) (pgs_cons (pg_name (i := 4) sc_law.nd rfl (Or.inl rfl)) (pgs_cons (pg_tup (by rfl) (pgs_cons (pg_name (i := 5) sc_law.nd rfl (Or.inl rfl)) (pgs_cons (pg_name (i := 6) sc_law.nd rfl (Or.inl rfl)) pgs_nil))) pgs_nil))) (pss_cons (ps_if (PW.pt (pw_or (pt_cmpR (op_neD hr.units) (pe_call G_l_sort (hr.mono (by decide)) rfl D_l_sort.mg D_l_sort.kp D_l_sort.b .nil pass0 (pa_cons (pv 5) pa_nil)) (pe_lst (pa_cons (pv 4) pa_nil)) (nomark _)) (pw_or (pt_not (pt_val (pe_callB call_isV (by rfl) T.isinstance (by decide +kernel) (pa_cons (pv 5) (pa_cons (pe_glob (v := .ref AE) rfl T.mA rfl) pa_nil))))) (pw_or1 (pt_not (pt_val (pe_callB call_isV (by rfl) T.isinstance (by decide +kernel) (pa_cons (pv 5) (pa_cons (pe_bltn (v := .ty "ValueError") (u := .type "ValueError") (by rfl) T.ValueError (by decide +kernel) rfl) pa_nil))))))))) (pss_one (ps_ret pe_bl)) pss_nil)
      (pss_one (ps_if (pt_cmpR op_ne (pe_callB (call_reprD hr (by rfl)) (by rfl) T.repr (by decide +kernel) (pa_cons (pe_call G_l_fields (hr.mono (by decide)) rfl D_l_fields.mg D_l_fields.kp D_l_fields.b .nil pass0 (pa_cons (pv 4) (pa_cons (pv 5) pa_nil))) pa_nil)) (pe_callB (call_reprD hr (by rfl)) (by rfl) T.repr (by decide +kernel) (pa_cons (pv 6) pa_nil)) (nomark _)) (pss_one (ps_ret pe_bl)) pss_nil))))))
      (pss_one (ps_ret pe_bl))))), ?_⟩
    refine ⟨_, rfl, a, ns, 0, rfl, hS, by omega, by decide, by decide, fun d l H1 hd hl D1 s1 => ?_⟩
    refine ⟨_, rfl, d, l, rfl, D1, fun L1 H2 f1 M1 D2 k2 => ⟨_, rfl, d, l, rfl, D2, fun L2 H3 f2 M2 D3 k3 => ⟨by show 2 ≤ sizeLine; decide, fun B hB => ?_⟩⟩⟩
    have n1 := D1.new f1
    have M1 := M1.kp D2 k3 n1.1 n1.2
    have s4 : Same H3 (upd H3 B (.lst [.ref L1, .ref L2])) := Same.new hB
    have M1 := M1.same s4
    have M2 := M2.same s4
    have hB4 : (upd H3 B (.lst [.ref L1, .ref L2])) B = some (.lst [.ref L1, .ref L2]) := upd_same
    generalize upd H3 B (.lst [.ref L1, .ref L2]) = H4 at s4 M1 M2 hB4 ⊢
    refine ⟨_, rfl, _, rfl, 1, rfl, B, _, rfl, SqL.of hB4, fun q hq => ?_⟩
    have s5 : Same H4 (upd H4 q (.lst (cutV [.ref L1, .ref L2] none (some 1)))) := Same.new hq
    refine ⟨B, q, _, _, rfl, rfl, s5 _ _ hB4, upd_same, by show 2 + 1 ≤ sizeLine; decide, fun u hu5 => ?_⟩
    have s6 := s5.trans (Same.new (o := .lst ([.ref L1, .ref L2] ++ cutV [.ref L1, .ref L2] none (some 1))) hu5)
    have e3 : ([.ref L1, .ref L2] ++ cutV [V.ref L1, .ref L2] none (some 1)) = [.ref L1, .ref L2, .ref L1] := rfl
    have hu6 : (upd (upd H4 q (.lst (cutV [.ref L1, .ref L2] none (some 1)))) u (.lst ([.ref L1, .ref L2] ++ cutV [.ref L1, .ref L2] none (some 1)))) u = some (.lst [.ref L1, .ref L2, .ref L1]) := upd_same
    generalize upd (upd H4 q (.lst (cutV [.ref L1, .ref L2] none (some 1)))) u (.lst ([.ref L1, .ref L2] ++ cutV [.ref L1, .ref L2] none (some 1))) = H6 at s6 hu6 ⊢
    have M1 := M1.same s6
    have M2 := M2.same s6
    refine ⟨u, rfl, ⟨_, SqL.of hu6⟩, for_list (xs := [.ref L1, .ref L2, .ref L1]) (fun i σ J => Same H6 J ∧ ∃ v3 v4 v5 v6 : Option V, σ = [some (.ref a), some (.ref d), some (.ref B), v3, v4, v5, v6]) ⟨Same.refl _, _, _, _, _, rfl⟩ (fun i σ J _ q => SqL.of (q.1 _ _ hu6)) (fun i x σ J hx q => ?_) fun σ J q => k _⟩
    obtain ⟨sm, v3, v4, v5, v6, rfl⟩ := q
    obtain ⟨L, rfl, ML⟩ : ∃ L, x = V.ref L ∧ MadeAll CT CP CB CN CR H6 L := by
      have hm := List.mem_of_getElem? hx
      simp only [List.mem_cons, List.not_mem_nil, or_false] at hm
      rcases hm with rfl | rfl | rfl
      · exact ⟨_, rfl, M1⟩
      · exact ⟨_, rfl, M2⟩
      · exact ⟨_, rfl, M1⟩
    obtain ⟨us, es, hL, hes, hix⟩ := ML.same sm
    refine ⟨_, rfl, L, us, rfl, SqL.of hL, for_it walk_enum (fun j σ J2 => Same J J2 ∧ ∃ v4 v5 v6 : Option V, σ = [some (.ref a), some (.ref d), some (.ref B), some (.ref L), v4, v5, v6]) ⟨Same.refl _, _, _, _, rfl⟩ (fun j σ J2 _ q => SqL.of (q.1 _ _ hL)) (fun j x σ J2 J3 hj q y => ?_) fun σ J2 q => ?_⟩
    · obtain ⟨sj, w4, w5, w6, rfl⟩ := q
      obtain ⟨T0, x1, x2, rfl, hT, rfl, ex1, ex2⟩ := y
      obtain rfl : V.int (j : Int) = x1 := Option.some.inj ex1
      have ex2' : us[j]? = some x2 := ex2
      obtain ⟨e, he, hM⟩ := pair_get hes ex2'
      have ej : e.ix = j := ix_of hix he
      obtain ⟨Tm, p, b, rfl, t1, t2, t3, ok⟩ := hM
      have sT : Same J2 (upd J2 T0 (.tup [V.int (j : Int), .ref Tm])) := Same.new hT
      have sj2 := sj.trans sT
      refine ⟨T0, _, rfl, SqT.of upd_same, rfl, _, _, rfl, ?_⟩
      generalize upd J2 T0 (.tup [V.int (j : Int), .ref Tm]) = J4 at sj2 ⊢
      have t1 := sj2 _ _ t1
      have t2 := t2.same sj2
      have t3 := sj2 _ _ t3
      have mem := e.mem CT CP CB CN CR
      have ec := T.ec _ mem
      subst ej
      refine ⟨_, _, rfl, Tm, _, rfl, SqT.of t1, rfl, _, _, rfl, _, _, rfl, rfl, rfl, ?_⟩
      -- sort(one) != [k]
      refine ⟨_, rfl, b, e, rfl, t2, fun S H7 s7 hS7 => ⟨_, rfl, by show 1 ≤ sizeLine; decide, fun S2 hS2 => ?_⟩⟩
      have s8 := s7.trans (Same.new (o := .lst [.int (e.ix : Int)]) hS2)
      have h8 : (upd H7 S2 (.lst [.int (e.ix : Int)])) S2 = some (.lst [.int (e.ix : Int)]) := upd_same
      have hS8 := Same.new (o := .lst [.int (e.ix : Int)]) hS2 _ _ hS7
      generalize upd H7 S2 (.lst [.int (e.ix : Int)]) = H8 at s8 h8 hS8 ⊢
      have dp : DpAll K H8 [V.int (e.ix : Int)] [.int (e.ix : Int)] := .cons (.int _) .nil
      refine ⟨.list [.int (e.ix : Int)], .list [.int (e.ix : Int)], .lst (SqL.of hS8) dp, .lst (SqL.of h8) dp, rfl, rfl, ?_⟩
      have eqs : PyData.eqv (.list [.int (e.ix : Int)]) (.list [.int (e.ix : Int)]) = true := by simp [PyData.eqv, PyData.eqvAll]
      rw [eqs]
      refine ⟨_, rfl, iteF ?_⟩
      -- isinstance
      refine ⟨_, rfl, b, _, e.fs, .ref AE, .ref AE, true, rfl, t2.same s8, ec, fun u h => h, T.ask _ mem, _, rfl, iteF ?_⟩
      refine ⟨_, rfl, b, _, e.fs, .ty "ValueError", .type "ValueError", true, rfl, t2.same s8, ec, fun u h => h, T.val _ mem, _, rfl, iteF ?_⟩
      -- repr
      have dt : ∀ {H' : Hp} {z : Addr}, H' z = some (.tup e.vals) → Dp K H' (.ref z) (.tuple e.data) := fun {H' z} h => .tup (SqT.of h) e.dp
      obtain ⟨fit1, fit2, fit3, fit4⟩ := e.fits ok
      refine ⟨_, rfl, _, rfl, b, e, rfl, t2.same s8, fun z H9 s9 h9 => ⟨z, _, rfl, dt h9, fit1, fit2, fit3, fit4, ?_⟩⟩
      refine ⟨_, rfl, p, _, rfl, dt (s9 _ _ (s8 _ _ t3)), fit1, fit2, fit3, fit4, rfl, ?_⟩
      refine ⟨_, rfl, ?_⟩
      rw [show decide (V.str (PyData.tuple e.data).shown = V.str (PyData.tuple e.data).shown) = true from decide_eq_true rfl]
      refine iteF ?_
      exact ⟨sj2.trans (s8.trans s9), _, _, _, rfl⟩
    · obtain ⟨sj, w4, w5, w6, rfl⟩ := q
      exact ⟨sm.trans sj, _, _, _, _, rfl⟩
end
end Ak
namespace Ak
open PySem L2
local macro_rules | `(tactic| walk_at "no attr") => `(tactic| exact rwF_no _ _ _ (by decide +kernel) (by decide +kernel) (by decide +kernel))
set_option maxHeartbeats 0 in
theorem all_mk {l : PySem.W.OpenLaw} {w : World} {K : PySem.W.Frag} {h : Heap} {mg : Str → Option Value} {fa : Addr} (X : K.In h) (G : h.Ns mainGlobals mg) (hfa : mg "law" = some (.ref fa))
    {f_l_deal f_l_draw f_l_some f_l_made f_l_fields f_l_sort f_law : Addr} {od_l_deal an_l_deal od_l_draw an_l_draw od_l_some an_l_some od_l_made an_l_made od_l_fields an_l_fields od_l_sort an_l_sort od_law an_law : Option Addr} {sl_l_deal sl_l_draw sl_l_some sl_l_made sl_l_fields sl_l_sort sl_law : Array (Option Value)} {oc_l_deal kV_l_deal dc_l_deal pm_l_deal cd_l_deal ct_l_deal oc_l_draw kV_l_draw dc_l_draw pm_l_draw cd_l_draw ct_l_draw oc_l_some kV_l_some dc_l_some pm_l_some cd_l_some ct_l_some oc_l_made kV_l_made dc_l_made pm_l_made cd_l_made ct_l_made oc_l_fields kV_l_fields dc_l_fields pm_l_fields cd_l_fields ct_l_fields oc_l_sort kV_l_sort dc_l_sort pm_l_sort cd_l_sort ct_l_sort oc_law kV_law dc_law pm_law cd_law ct_law : Value}
    {CT CP CB CN CR AE : Addr}
    (a_l_deal : PySem.W.nsIn K mainGlobals "_law_deal" = some (some (.ref f_l_deal)))
    (l_l_deal : K.lookup f_l_deal = some ⟨oc_l_deal, od_l_deal, .func (PySem.W.fnOf "_law_deal" "_law_deal" (defArgs st_l_deal) (defBody st_l_deal) (defScope st_l_deal) .none kV_l_deal dc_l_deal pm_l_deal an_l_deal cd_l_deal ct_l_deal), sl_l_deal⟩)
    (c_l_deal : PySem.W.codeIn K cd_l_deal "_law_deal" = true)
    (k_l_deal : PySem.W.keepIn K (.ref f_l_deal) = true)
    (a_l_draw : PySem.W.nsIn K mainGlobals "_law_draw" = some (some (.ref f_l_draw)))
    (l_l_draw : K.lookup f_l_draw = some ⟨oc_l_draw, od_l_draw, .func (PySem.W.fnOf "_law_draw" "_law_draw" (defArgs st_l_draw) (defBody st_l_draw) (defScope st_l_draw) .none kV_l_draw dc_l_draw pm_l_draw an_l_draw cd_l_draw ct_l_draw), sl_l_draw⟩)
    (c_l_draw : PySem.W.codeIn K cd_l_draw "_law_draw" = true)
    (k_l_draw : PySem.W.keepIn K (.ref f_l_draw) = true)
    (a_l_some : PySem.W.nsIn K mainGlobals "_law_some" = some (some (.ref f_l_some)))
    (l_l_some : K.lookup f_l_some = some ⟨oc_l_some, od_l_some, .func (PySem.W.fnOf "_law_some" "_law_some" (defArgs st_l_some) (defBody st_l_some) (defScope st_l_some) .none kV_l_some dc_l_some pm_l_some an_l_some cd_l_some ct_l_some), sl_l_some⟩)
    (c_l_some : PySem.W.codeIn K cd_l_some "_law_some" = true)
    (k_l_some : PySem.W.keepIn K (.ref f_l_some) = true)
    (a_l_made : PySem.W.nsIn K mainGlobals "_law_made" = some (some (.ref f_l_made)))
    (l_l_made : K.lookup f_l_made = some ⟨oc_l_made, od_l_made, .func (PySem.W.fnOf "_law_made" "_law_made" (defArgs st_l_made) (defBody st_l_made) (defScope st_l_made) .none kV_l_made dc_l_made pm_l_made an_l_made cd_l_made ct_l_made), sl_l_made⟩)
    (c_l_made : PySem.W.codeIn K cd_l_made "_law_made" = true)
    (k_l_made : PySem.W.keepIn K (.ref f_l_made) = true)
    (a_l_fields : PySem.W.nsIn K mainGlobals "_law_fields" = some (some (.ref f_l_fields)))
    (l_l_fields : K.lookup f_l_fields = some ⟨oc_l_fields, od_l_fields, .func (PySem.W.fnOf "_law_fields" "_law_fields" (defArgs st_l_fields) (defBody st_l_fields) (defScope st_l_fields) .none kV_l_fields dc_l_fields pm_l_fields an_l_fields cd_l_fields ct_l_fields), sl_l_fields⟩)
    (c_l_fields : PySem.W.codeIn K cd_l_fields "_law_fields" = true)
    (k_l_fields : PySem.W.keepIn K (.ref f_l_fields) = true)
    (a_l_sort : PySem.W.nsIn K mainGlobals "_law_sort" = some (some (.ref f_l_sort)))
    (l_l_sort : K.lookup f_l_sort = some ⟨oc_l_sort, od_l_sort, .func (PySem.W.fnOf "_law_sort" "_law_sort" (defArgs st_l_sort) (defBody st_l_sort) (defScope st_l_sort) .none kV_l_sort dc_l_sort pm_l_sort an_l_sort cd_l_sort ct_l_sort), sl_l_sort⟩)
    (c_l_sort : PySem.W.codeIn K cd_l_sort "_law_sort" = true)
    (k_l_sort : PySem.W.keepIn K (.ref f_l_sort) = true)
    (a_law : PySem.W.nsIn K mainGlobals "law" = some (some (.ref f_law)))
    (l_law : K.lookup f_law = some ⟨oc_law, od_law, .func (PySem.W.fnOf "law" "law" (defArgs st_law) (defBody st_law) (defScope st_law) .none kV_law dc_law pm_law an_law cd_law ct_law), sl_law⟩)
    (c_law : PySem.W.codeIn K cd_law "law" = true)
    (k_law : PySem.W.keepIn K (.ref f_law) = true)
    (z_len : PySem.W.nsIn K mainGlobals "len" = some none)
    (z_list : PySem.W.nsIn K mainGlobals "list" = some none)
    (z_range : PySem.W.nsIn K mainGlobals "range" = some none)
    (z_max : PySem.W.nsIn K mainGlobals "max" = some none)
    (z_isinstance : PySem.W.nsIn K mainGlobals "isinstance" = some none)
    (z_reversed : PySem.W.nsIn K mainGlobals "reversed" = some none)
    (z_repr : PySem.W.nsIn K mainGlobals "repr" = some none)
    (z_enumerate : PySem.W.nsIn K mainGlobals "enumerate" = some none)
    (z_ValueError : PySem.W.nsIn K mainGlobals "ValueError" = some none)
    (aCT : PySem.W.nsIn K mainGlobals "NoText" = some (some (.ref CT)))
    (aCP : PySem.W.nsIn K mainGlobals "NoProgram" = some (some (.ref CP)))
    (aCB : PySem.W.nsIn K mainGlobals "NoBook" = some (some (.ref CB)))
    (aCN : PySem.W.nsIn K mainGlobals "NoTurn" = some (some (.ref CN)))
    (aCR : PySem.W.nsIn K mainGlobals "NoRow" = some (some (.ref CR)))
    (aAE : PySem.W.nsIn K mainGlobals "AskError" = some (some (.ref AE)))
    (hn : PySem.W.specialIn K (.builtin "object.__class__") "__get__" = some (some (.builtin "getset_descriptor.__get__")))
    (ht : PySem.W.takesIn K (.builtin "object.__class__") = some true)
    (kt_0_0 : PySem.W.kitOne K (.ref CT) (.ref CT) = some true)
    (kt_0_1 : PySem.W.kitOne K (.ref CT) (.ref CP) = some false)
    (kt_0_2 : PySem.W.kitOne K (.ref CT) (.ref CB) = some false)
    (kt_0_3 : PySem.W.kitOne K (.ref CT) (.ref CN) = some false)
    (kt_0_4 : PySem.W.kitOne K (.ref CT) (.ref CR) = some false)
    (kA_CT : PySem.W.kitOne K (.ref CT) (.ref AE) = some true)
    (kV_CT : PySem.W.kitOne K (.ref CT) (.type "ValueError") = some true)
    (gaCT : PySem.W.findIn K (.ref CT) "__getattribute__" = some (some (.builtin "BaseException.__getattribute__")))
    (ggCT : PySem.W.findIn K (.ref CT) "__getattr__" = some none)
    (exCT : PySem.W.subIn K (.ref CT) (.type "BaseException") = some true)
    (hdCT : PySem.W.hasDictIn K CT = true)
    (haCT : PySem.W.findIn K (.ref CT) "__class__" = some (some (.builtin "object.__class__")))
    (hmCT : PySem.W.mroIn K CT (.type "object") = some true)
    (keCT : PySem.W.keepIn K (.ref CT) = true)
    (kt_1_0 : PySem.W.kitOne K (.ref CP) (.ref CT) = some false)
    (kt_1_1 : PySem.W.kitOne K (.ref CP) (.ref CP) = some true)
    (kt_1_2 : PySem.W.kitOne K (.ref CP) (.ref CB) = some false)
    (kt_1_3 : PySem.W.kitOne K (.ref CP) (.ref CN) = some false)
    (kt_1_4 : PySem.W.kitOne K (.ref CP) (.ref CR) = some false)
    (kA_CP : PySem.W.kitOne K (.ref CP) (.ref AE) = some true)
    (kV_CP : PySem.W.kitOne K (.ref CP) (.type "ValueError") = some true)
    (gaCP : PySem.W.findIn K (.ref CP) "__getattribute__" = some (some (.builtin "BaseException.__getattribute__")))
    (ggCP : PySem.W.findIn K (.ref CP) "__getattr__" = some none)
    (exCP : PySem.W.subIn K (.ref CP) (.type "BaseException") = some true)
    (hdCP : PySem.W.hasDictIn K CP = true)
    (haCP : PySem.W.findIn K (.ref CP) "__class__" = some (some (.builtin "object.__class__")))
    (hmCP : PySem.W.mroIn K CP (.type "object") = some true)
    (keCP : PySem.W.keepIn K (.ref CP) = true)
    (kt_2_0 : PySem.W.kitOne K (.ref CB) (.ref CT) = some false)
    (kt_2_1 : PySem.W.kitOne K (.ref CB) (.ref CP) = some false)
    (kt_2_2 : PySem.W.kitOne K (.ref CB) (.ref CB) = some true)
    (kt_2_3 : PySem.W.kitOne K (.ref CB) (.ref CN) = some false)
    (kt_2_4 : PySem.W.kitOne K (.ref CB) (.ref CR) = some false)
    (kA_CB : PySem.W.kitOne K (.ref CB) (.ref AE) = some true)
    (kV_CB : PySem.W.kitOne K (.ref CB) (.type "ValueError") = some true)
    (gaCB : PySem.W.findIn K (.ref CB) "__getattribute__" = some (some (.builtin "BaseException.__getattribute__")))
    (ggCB : PySem.W.findIn K (.ref CB) "__getattr__" = some none)
    (exCB : PySem.W.subIn K (.ref CB) (.type "BaseException") = some true)
    (hdCB : PySem.W.hasDictIn K CB = true)
    (haCB : PySem.W.findIn K (.ref CB) "__class__" = some (some (.builtin "object.__class__")))
    (hmCB : PySem.W.mroIn K CB (.type "object") = some true)
    (keCB : PySem.W.keepIn K (.ref CB) = true)
    (kt_3_0 : PySem.W.kitOne K (.ref CN) (.ref CT) = some false)
    (kt_3_1 : PySem.W.kitOne K (.ref CN) (.ref CP) = some false)
    (kt_3_2 : PySem.W.kitOne K (.ref CN) (.ref CB) = some false)
    (kt_3_3 : PySem.W.kitOne K (.ref CN) (.ref CN) = some true)
    (kt_3_4 : PySem.W.kitOne K (.ref CN) (.ref CR) = some false)
    (kA_CN : PySem.W.kitOne K (.ref CN) (.ref AE) = some true)
    (kV_CN : PySem.W.kitOne K (.ref CN) (.type "ValueError") = some true)
    (gaCN : PySem.W.findIn K (.ref CN) "__getattribute__" = some (some (.builtin "BaseException.__getattribute__")))
    (ggCN : PySem.W.findIn K (.ref CN) "__getattr__" = some none)
    (exCN : PySem.W.subIn K (.ref CN) (.type "BaseException") = some true)
    (hdCN : PySem.W.hasDictIn K CN = true)
    (haCN : PySem.W.findIn K (.ref CN) "__class__" = some (some (.builtin "object.__class__")))
    (hmCN : PySem.W.mroIn K CN (.type "object") = some true)
    (keCN : PySem.W.keepIn K (.ref CN) = true)
    (kt_4_0 : PySem.W.kitOne K (.ref CR) (.ref CT) = some false)
    (kt_4_1 : PySem.W.kitOne K (.ref CR) (.ref CP) = some false)
    (kt_4_2 : PySem.W.kitOne K (.ref CR) (.ref CB) = some false)
    (kt_4_3 : PySem.W.kitOne K (.ref CR) (.ref CN) = some false)
    (kt_4_4 : PySem.W.kitOne K (.ref CR) (.ref CR) = some true)
    (kA_CR : PySem.W.kitOne K (.ref CR) (.ref AE) = some true)
    (kV_CR : PySem.W.kitOne K (.ref CR) (.type "ValueError") = some true)
    (gaCR : PySem.W.findIn K (.ref CR) "__getattribute__" = some (some (.builtin "BaseException.__getattribute__")))
    (ggCR : PySem.W.findIn K (.ref CR) "__getattr__" = some none)
    (exCR : PySem.W.subIn K (.ref CR) (.type "BaseException") = some true)
    (hdCR : PySem.W.hasDictIn K CR = true)
    (haCR : PySem.W.findIn K (.ref CR) "__class__" = some (some (.builtin "object.__class__")))
    (hmCR : PySem.W.mroIn K CR (.type "object") = some true)
    (keCR : PySem.W.keepIn K (.ref CR) = true)
    (zCN : PySem.W.excIn K CN [.type "ValueError", .type "Exception", .type "BaseException", .type "object"] "ValueError.__new__" = true)
    (zCR : PySem.W.excIn K CR [.type "ValueError", .type "Exception", .type "BaseException", .type "object"] "ValueError.__new__" = true)
    {fNT : Addr} {nmET qET : Str} {NET : Addr} {bsET bmET : List Value} {snET : List Str} {sbET : List Value} {abET : Bool} {clET : Option Bool} {ddET : Option Addr} {mAT mBT mCT mDT mET : Option Value} {odNT anNT : Option Addr} {slNT : Array (Option Value)} {ocNT kVNT dcNT pmNT cdNT ctNT : Value}
    (xT : K.lookup CT = some (excClassObj nmET qET CT NET bsET bmET true snET sbET abET clET ddET mAT mBT mCT mDT mET "ValueError.__new__"))
    (rT : PySem.HandSPX.refsVE bmET = true)
    (saT : PySem.W.findIn K (.ref CT) "__setattr__" = some (some (.builtin "object.__setattr__")))
    (tyT : PySem.W.typeIn K (.ref CT) = some (.type "type"))
    (iT : PySem.W.findIn K (.ref CT) "__init__" = some (some (.ref fNT)))
    (tT : PySem.W.typeIn K (.ref fNT) = some (.type "function"))
    (lT : K.lookup fNT = some ⟨ocNT, odNT, .func (PySem.W.fnOf "__init__" "NoText.__init__" (defArgs st_nt_init) (defBody st_nt_init) (defScope st_nt_init) .none kVNT dcNT pmNT anNT cdNT ctNT), slNT⟩)
    (cT : PySem.W.codeIn K cdNT "NoText.__init__" = true)
    (knT : PySem.W.keepIn K (.ref fNT) = true)
    {fNP : Addr} {nmEP qEP : Str} {NEP : Addr} {bsEP bmEP : List Value} {snEP : List Str} {sbEP : List Value} {abEP : Bool} {clEP : Option Bool} {ddEP : Option Addr} {mAP mBP mCP mDP mEP : Option Value} {odNP anNP : Option Addr} {slNP : Array (Option Value)} {ocNP kVNP dcNP pmNP cdNP ctNP : Value}
    (xP : K.lookup CP = some (excClassObj nmEP qEP CP NEP bsEP bmEP true snEP sbEP abEP clEP ddEP mAP mBP mCP mDP mEP "ValueError.__new__"))
    (rP : PySem.HandSPX.refsVE bmEP = true)
    (saP : PySem.W.findIn K (.ref CP) "__setattr__" = some (some (.builtin "object.__setattr__")))
    (tyP : PySem.W.typeIn K (.ref CP) = some (.type "type"))
    (iP : PySem.W.findIn K (.ref CP) "__init__" = some (some (.ref fNP)))
    (tP : PySem.W.typeIn K (.ref fNP) = some (.type "function"))
    (lP : K.lookup fNP = some ⟨ocNP, odNP, .func (PySem.W.fnOf "__init__" "NoProgram.__init__" (defArgs st_np_init) (defBody st_np_init) (defScope st_np_init) .none kVNP dcNP pmNP anNP cdNP ctNP), slNP⟩)
    (cP : PySem.W.codeIn K cdNP "NoProgram.__init__" = true)
    (knP : PySem.W.keepIn K (.ref fNP) = true)
    {fNB : Addr} {nmEB qEB : Str} {NEB : Addr} {bsEB bmEB : List Value} {snEB : List Str} {sbEB : List Value} {abEB : Bool} {clEB : Option Bool} {ddEB : Option Addr} {mAB mBB mCB mDB mEB : Option Value} {odNB anNB : Option Addr} {slNB : Array (Option Value)} {ocNB kVNB dcNB pmNB cdNB ctNB : Value}
    (xB : K.lookup CB = some (excClassObj nmEB qEB CB NEB bsEB bmEB true snEB sbEB abEB clEB ddEB mAB mBB mCB mDB mEB "ValueError.__new__"))
    (rB : PySem.HandSPX.refsVE bmEB = true)
    (saB : PySem.W.findIn K (.ref CB) "__setattr__" = some (some (.builtin "object.__setattr__")))
    (tyB : PySem.W.typeIn K (.ref CB) = some (.type "type"))
    (iB : PySem.W.findIn K (.ref CB) "__init__" = some (some (.ref fNB)))
    (tB : PySem.W.typeIn K (.ref fNB) = some (.type "function"))
    (lB : K.lookup fNB = some ⟨ocNB, odNB, .func (PySem.W.fnOf "__init__" "NoBook.__init__" (defArgs st_nb_init) (defBody st_nb_init) (defScope st_nb_init) .none kVNB dcNB pmNB anNB cdNB ctNB), slNB⟩)
    (cB : PySem.W.codeIn K cdNB "NoBook.__init__" = true)
    (knB : PySem.W.keepIn K (.ref fNB) = true)
    (nT : PySem.W.findIn K (.ref CT) "row" = some none)
    (nP : PySem.W.findIn K (.ref CP) "word" = some none)
    (nQ : PySem.W.findIn K (.ref CP) "name" = some none)
    (nB : PySem.W.findIn K (.ref CB) "at" = some none)
    : ∃ fd : FuncData, (∀ (s : Shared) (v : Value), BindsTo s fd ⟨[v], []⟩ [("_law_script", v)]) ∧ ∀ base : Heap, K.In base → base.Ns mainGlobals mg → RunAt callerA l.prog w K mg base 5 fa fd ["_law_script"] (spLaw K) := by
  have e := hfa.symm.trans (PySem.W.mg_of X G a_law)
  cases e
  have m_len := PySem.W.mg_none_of X G z_len
  have m_list := PySem.W.mg_none_of X G z_list
  have m_range := PySem.W.mg_none_of X G z_range
  have m_max := PySem.W.mg_none_of X G z_max
  have m_isinstance := PySem.W.mg_none_of X G z_isinstance
  have m_reversed := PySem.W.mg_none_of X G z_reversed
  have m_repr := PySem.W.mg_none_of X G z_repr
  have m_enumerate := PySem.W.mg_none_of X G z_enumerate
  have m_ValueError := PySem.W.mg_none_of X G z_ValueError
  have F_l_deal := fun_mk (st := st_l_deal) l_l_deal c_l_deal k_l_deal
  have D_l_deal : Fn K mg "_law_deal" st_l_deal ["_law_script", "_law_base"] _ _ := ⟨PySem.W.mg_of X G a_l_deal, k_l_deal, F_l_deal, F_l_deal.binds (ps := ["_law_script", "_law_base"]) fun _ _ _ _ _ _ us hl => match us, hl with | [_, _], _ => rfl⟩
  have F_l_draw := fun_mk (st := st_l_draw) l_l_draw c_l_draw k_l_draw
  have D_l_draw : Fn K mg "_law_draw" st_l_draw ["_law_deal_here", "_law_many"] _ _ := ⟨PySem.W.mg_of X G a_l_draw, k_l_draw, F_l_draw, F_l_draw.binds (ps := ["_law_deal_here", "_law_many"]) fun _ _ _ _ _ _ us hl => match us, hl with | [_, _], _ => rfl⟩
  have F_l_some := fun_mk (st := st_l_some) l_l_some c_l_some k_l_some
  have D_l_some : Fn K mg "_law_some" st_l_some ["_law_deal_here"] _ _ := ⟨PySem.W.mg_of X G a_l_some, k_l_some, F_l_some, F_l_some.binds (ps := ["_law_deal_here"]) fun _ _ _ _ _ _ us hl => match us, hl with | [_], _ => rfl⟩
  have F_l_made := fun_mk (st := st_l_made) l_l_made c_l_made k_l_made
  have D_l_made : Fn K mg "_law_made" st_l_made ["_law_deal_here"] _ _ := ⟨PySem.W.mg_of X G a_l_made, k_l_made, F_l_made, F_l_made.binds (ps := ["_law_deal_here"]) fun _ _ _ _ _ _ us hl => match us, hl with | [_], _ => rfl⟩
  have F_l_fields := fun_mk (st := st_l_fields) l_l_fields c_l_fields k_l_fields
  have D_l_fields : Fn K mg "_law_fields" st_l_fields ["_law_k", "_law_one"] _ _ := ⟨PySem.W.mg_of X G a_l_fields, k_l_fields, F_l_fields, F_l_fields.binds (ps := ["_law_k", "_law_one"]) fun _ _ _ _ _ _ us hl => match us, hl with | [_, _], _ => rfl⟩
  have F_l_sort := fun_mk (st := st_l_sort) l_l_sort c_l_sort k_l_sort
  have D_l_sort : Fn K mg "_law_sort" st_l_sort ["_law_one"] _ _ := ⟨PySem.W.mg_of X G a_l_sort, k_l_sort, F_l_sort, F_l_sort.binds (ps := ["_law_one"]) fun _ _ _ _ _ _ us hl => match us, hl with | [_], _ => rfl⟩
  have F_law := fun_mk (st := st_law) l_law c_law k_law
  have D_law : Fn K mg "law" st_law ["_law_script"] _ _ := ⟨PySem.W.mg_of X G a_law, k_law, F_law, F_law.binds (ps := ["_law_script"]) fun _ _ _ _ _ _ us hl => match us, hl with | [_], _ => rfl⟩
  have TD : BltD mg := ⟨m_len, m_list, m_reversed, m_max⟩
  have ET := fun_mk (st := st_nt_init) lT cT knT
  have oT : OexC K CT := ⟨⟨_, _, _, _, _, _, _, _, _, _, _, _, _, _, _, xT, rT⟩, saT, exCT, tyT, keCT⟩
  have EP := fun_mk (st := st_np_init) lP cP knP
  have oP : OexC K CP := ⟨⟨_, _, _, _, _, _, _, _, _, _, _, _, _, _, _, xP, rP⟩, saP, exCP, tyP, keCP⟩
  have EB := fun_mk (st := st_nb_init) lB cB knB
  have oB : OexC K CB := ⟨⟨_, _, _, _, _, _, _, _, _, _, _, _, _, _, _, xB, rB⟩, saB, exCB, tyB, keCB⟩
  have ecCT : ExcC K CT := ⟨gaCT, ggCT, exCT, hdCT, haCT, hn, ht, hmCT⟩
  have ecCP : ExcC K CP := ⟨gaCP, ggCP, exCP, hdCP, haCP, hn, ht, hmCP⟩
  have ecCB : ExcC K CB := ⟨gaCB, ggCB, exCB, hdCB, haCB, hn, ht, hmCB⟩
  have ecCN : ExcC K CN := ⟨gaCN, ggCN, exCN, hdCN, haCN, hn, ht, hmCN⟩
  have ecCR : ExcC K CR := ⟨gaCR, ggCR, exCR, hdCR, haCR, hn, ht, hmCR⟩
  have kit : ∀ (i j : Nat) (C D : Addr), [CT, CP, CB, CN, CR][i]? = some C → [CT, CP, CB, CN, CR][j]? = some D → PySem.W.kitOne K (.ref C) (.ref D) = some (decide (i = j)) := by
    intro i j C D hC hD
    match i, j, hC, hD with
    | 0, 0, hC, hD => cases hC; cases hD; exact kt_0_0
    | 0, 1, hC, hD => cases hC; cases hD; exact kt_0_1
    | 0, 2, hC, hD => cases hC; cases hD; exact kt_0_2
    | 0, 3, hC, hD => cases hC; cases hD; exact kt_0_3
    | 0, 4, hC, hD => cases hC; cases hD; exact kt_0_4
    | 0, _ + 5, _, hD => cases hD
    | 1, 0, hC, hD => cases hC; cases hD; exact kt_1_0
    | 1, 1, hC, hD => cases hC; cases hD; exact kt_1_1
    | 1, 2, hC, hD => cases hC; cases hD; exact kt_1_2
    | 1, 3, hC, hD => cases hC; cases hD; exact kt_1_3
    | 1, 4, hC, hD => cases hC; cases hD; exact kt_1_4
    | 1, _ + 5, _, hD => cases hD
    | 2, 0, hC, hD => cases hC; cases hD; exact kt_2_0
    | 2, 1, hC, hD => cases hC; cases hD; exact kt_2_1
    | 2, 2, hC, hD => cases hC; cases hD; exact kt_2_2
    | 2, 3, hC, hD => cases hC; cases hD; exact kt_2_3
    | 2, 4, hC, hD => cases hC; cases hD; exact kt_2_4
    | 2, _ + 5, _, hD => cases hD
    | 3, 0, hC, hD => cases hC; cases hD; exact kt_3_0
    | 3, 1, hC, hD => cases hC; cases hD; exact kt_3_1
    | 3, 2, hC, hD => cases hC; cases hD; exact kt_3_2
    | 3, 3, hC, hD => cases hC; cases hD; exact kt_3_3
    | 3, 4, hC, hD => cases hC; cases hD; exact kt_3_4
    | 3, _ + 5, _, hD => cases hD
    | 4, 0, hC, hD => cases hC; cases hD; exact kt_4_0
    | 4, 1, hC, hD => cases hC; cases hD; exact kt_4_1
    | 4, 2, hC, hD => cases hC; cases hD; exact kt_4_2
    | 4, 3, hC, hD => cases hC; cases hD; exact kt_4_3
    | 4, 4, hC, hD => cases hC; cases hD; exact kt_4_4
    | 4, _ + 5, _, hD => cases hD
    | _ + 5, _, hC, _ => cases hC
  have ask : ∀ C ∈ [CT, CP, CB, CN, CR], PySem.W.kitOne K (.ref C) (.ref AE) = some true := by
    intro C hC
    simp only [List.mem_cons, List.not_mem_nil, or_false] at hC
    rcases hC with rfl | rfl | rfl | rfl | rfl
    · exact kA_CT
    · exact kA_CP
    · exact kA_CB
    · exact kA_CN
    · exact kA_CR
  have val : ∀ C ∈ [CT, CP, CB, CN, CR], PySem.W.kitOne K (.ref C) (.type "ValueError") = some true := by
    intro C hC
    simp only [List.mem_cons, List.not_mem_nil, or_false] at hC
    rcases hC with rfl | rfl | rfl | rfl | rfl
    · exact kV_CT
    · exact kV_CP
    · exact kV_CB
    · exact kV_CN
    · exact kV_CR
  have ecs : ∀ C ∈ [CT, CP, CB, CN, CR], ExcC K C := by
    intro C hC
    simp only [List.mem_cons, List.not_mem_nil, or_false] at hC
    rcases hC with rfl | rfl | rfl | rfl | rfl
    · exact ecCT
    · exact ecCP
    · exact ecCB
    · exact ecCN
    · exact ecCR
  have T : BltE K mg CT CP CB CN CR AE _ _ _ _ _ _ := ⟨m_len, m_range, m_isinstance, m_repr, m_ValueError, m_enumerate, PySem.W.mg_of X G aCT, PySem.W.mg_of X G aCP, PySem.W.mg_of X G aCB, PySem.W.mg_of X G aCN, PySem.W.mg_of X G aCR, PySem.W.mg_of X G aAE, kit, ask, val, ecs, oT, oP, oB, iT, iP, iB, tT, tP, tB,
    (ET.binds (ps := ["self", "row"]) fun _ _ _ _ _ _ us hl => match us, hl with | [_, _], _ => rfl), (EP.binds (ps := ["self", "word", "name"]) fun _ _ _ _ _ _ us hl => match us, hl with | [_, _, _], _ => rfl), (EB.binds (ps := ["self", "at"]) fun _ _ _ _ _ _ us hl => match us, hl with | [_, _], _ => rfl),
    ET, EP, EB, nT, nP, nQ, nB, zCN, zCR, keCN, keCR⟩
  refine ⟨_, ?_, fun base _ _ => ok_law D_law T TD D_l_deal D_l_draw D_l_some D_l_made D_l_fields D_l_sort⟩
  exact fun s v => .of_eq rfl
theorem walk {l : PySem.W.OpenLaw} {q : Program} {loose : List Str} {XP : (Str → Option Value) → Heap → Prop} {YP : World → Heap → Prop} {d : DefRec} {K : Params → PySem.W.Frag} (hn : l.most = some 63) (hdf : d.params.defaults = [])
    (hY : ∀ (w : World) (h : Heap), YP w h → (K w.params).In h)
    (F : ∀ (w : World) (mg : Str → Option Value) (fa : Addr) (h : Heap), (K w.params).In h → h.Ns mainGlobals mg → mg d.name = some (.ref fa) →
      ∃ fd : FuncData, (∀ (s : Shared) (u : Value), BindsTo s fd ⟨[u], []⟩ [("_law_script", u)]) ∧ ∀ base : Heap, (K w.params).In base → base.Ns mainGlobals mg → RunAt callerA l.prog w (K w.params) mg base 5 fa fd ["_law_script"] (spLaw (K w.params))) :
    PySem.W.WalkO q loose XP YP l.row.toRowW d [] (fun f vs => PySem.call f vs) :=
  walk_at (n := 63) (k := 5) (x := "_law_script") (sp := fun w => spLaw (K w.params)) hn (by decide) hdf ⟨rfl, by decide, by decide⟩ hY F fun _ _ a ns hl hS => ⟨a, ns, rfl, hS, hl, fun _ => rfl⟩
end Ak
open PySem PySem.W PyProof.Rows
set_option maxRecDepth 100000 in
set_option maxHeartbeats 0 in
theorem PySem.Challenge.cw_askladder_k01_refusals_holds : PySem.Challenge.rw_askladder_k01_refusals.Holds := by
  w_on; o_law; k_head; (case hw => w_witness2)
  k_fill
  refine Ak.walk (l := PySem.Challenge.rw_askladder_k01_refusals) rfl rfl (fun w h Y => PySem.W.kIn_of Y) ?F
  case F =>
    intro w mg fa h KX G hmg
    refine' Ak.all_mk KX G hmg ?a_l_deal ?l_l_deal ?c_l_deal ?k_l_deal ?a_l_draw ?l_l_draw ?c_l_draw ?k_l_draw ?a_l_some ?l_l_some ?c_l_some ?k_l_some ?a_l_made ?l_l_made ?c_l_made ?k_l_made ?a_l_fields ?l_l_fields ?c_l_fields ?k_l_fields ?a_l_sort ?l_l_sort ?c_l_sort ?k_l_sort ?a_law ?l_law ?c_law ?k_law ?z_len ?z_list ?z_range ?z_max ?z_isinstance ?z_reversed ?z_repr ?z_enumerate ?z_ValueError ?aCT ?aCP ?aCB ?aCN ?aCR ?aAE ?hn ?ht ?kt_0_0 ?kt_0_1 ?kt_0_2 ?kt_0_3 ?kt_0_4 ?kA_CT ?kV_CT ?gaCT ?ggCT ?exCT ?hdCT ?haCT ?hmCT ?keCT ?kt_1_0 ?kt_1_1 ?kt_1_2 ?kt_1_3 ?kt_1_4 ?kA_CP ?kV_CP ?gaCP ?ggCP ?exCP ?hdCP ?haCP ?hmCP ?keCP ?kt_2_0 ?kt_2_1 ?kt_2_2 ?kt_2_3 ?kt_2_4 ?kA_CB ?kV_CB ?gaCB ?ggCB ?exCB ?hdCB ?haCB ?hmCB ?keCB ?kt_3_0 ?kt_3_1 ?kt_3_2 ?kt_3_3 ?kt_3_4 ?kA_CN ?kV_CN ?gaCN ?ggCN ?exCN ?hdCN ?haCN ?hmCN ?keCN ?kt_4_0 ?kt_4_1 ?kt_4_2 ?kt_4_3 ?kt_4_4 ?kA_CR ?kV_CR ?gaCR ?ggCR ?exCR ?hdCR ?haCR ?hmCR ?keCR ?zCN ?zCR ?xT ?rT ?saT ?tyT ?iT ?tT ?lT ?cT ?knT ?xP ?rP ?saP ?tyP ?iP ?tP ?lP ?cP ?knP ?xB ?rB ?saB ?tyB ?iB ?tB ?lB ?cB ?knB ?nT ?nP ?nQ ?nB
    (case a_l_deal => k_is)
    (case l_l_deal => k_is)
    (case c_l_deal => k_is)
    (case k_l_deal => k_is)
    (case a_l_draw => k_is)
    (case l_l_draw => k_is)
    (case c_l_draw => k_is)
    (case k_l_draw => k_is)
    (case a_l_some => k_is)
    (case l_l_some => k_is)
    (case c_l_some => k_is)
    (case k_l_some => k_is)
    (case a_l_made => k_is)
    (case l_l_made => k_is)
    (case c_l_made => k_is)
    (case k_l_made => k_is)
    (case a_l_fields => k_is)
    (case l_l_fields => k_is)
    (case c_l_fields => k_is)
    (case k_l_fields => k_is)
    (case a_l_sort => k_is)
    (case l_l_sort => k_is)
    (case c_l_sort => k_is)
    (case k_l_sort => k_is)
    (case a_law => k_is)
    (case l_law => k_is)
    (case c_law => k_is)
    (case k_law => k_is)
    (case z_len => k_is)
    (case z_list => k_is)
    (case z_range => k_is)
    (case z_max => k_is)
    (case z_isinstance => k_is)
    (case z_reversed => k_is)
    (case z_repr => k_is)
    (case z_enumerate => k_is)
    (case z_ValueError => k_is)
    (case aCT => k_is)
    (case aCP => k_is)
    (case aCB => k_is)
    (case aCN => k_is)
    (case aCR => k_is)
    (case aAE => k_is)
    (case hn => k_is)
    (case ht => k_is)
    (case kt_0_0 => (first | k_is | rfl | decide +kernel))
    (case kt_0_1 => (first | k_is | rfl | decide +kernel))
    (case kt_0_2 => (first | k_is | rfl | decide +kernel))
    (case kt_0_3 => (first | k_is | rfl | decide +kernel))
    (case kt_0_4 => (first | k_is | rfl | decide +kernel))
    (case kA_CT => (first | k_is | rfl | decide +kernel))
    (case kV_CT => (first | k_is | rfl | decide +kernel))
    (case gaCT => k_is)
    (case ggCT => k_is)
    (case exCT => k_is)
    (case hdCT => k_is)
    (case haCT => k_is)
    (case hmCT => k_is)
    (case keCT => k_is)
    (case kt_1_0 => (first | k_is | rfl | decide +kernel))
    (case kt_1_1 => (first | k_is | rfl | decide +kernel))
    (case kt_1_2 => (first | k_is | rfl | decide +kernel))
    (case kt_1_3 => (first | k_is | rfl | decide +kernel))
    (case kt_1_4 => (first | k_is | rfl | decide +kernel))
    (case kA_CP => (first | k_is | rfl | decide +kernel))
    (case kV_CP => (first | k_is | rfl | decide +kernel))
    (case gaCP => k_is)
    (case ggCP => k_is)
    (case exCP => k_is)
    (case hdCP => k_is)
    (case haCP => k_is)
    (case hmCP => k_is)
    (case keCP => k_is)
    (case kt_2_0 => (first | k_is | rfl | decide +kernel))
    (case kt_2_1 => (first | k_is | rfl | decide +kernel))
    (case kt_2_2 => (first | k_is | rfl | decide +kernel))
    (case kt_2_3 => (first | k_is | rfl | decide +kernel))
    (case kt_2_4 => (first | k_is | rfl | decide +kernel))
    (case kA_CB => (first | k_is | rfl | decide +kernel))
    (case kV_CB => (first | k_is | rfl | decide +kernel))
    (case gaCB => k_is)
    (case ggCB => k_is)
    (case exCB => k_is)
    (case hdCB => k_is)
    (case haCB => k_is)
    (case hmCB => k_is)
    (case keCB => k_is)
    (case kt_3_0 => (first | k_is | rfl | decide +kernel))
    (case kt_3_1 => (first | k_is | rfl | decide +kernel))
    (case kt_3_2 => (first | k_is | rfl | decide +kernel))
    (case kt_3_3 => (first | k_is | rfl | decide +kernel))
    (case kt_3_4 => (first | k_is | rfl | decide +kernel))
    (case kA_CN => (first | k_is | rfl | decide +kernel))
    (case kV_CN => (first | k_is | rfl | decide +kernel))
    (case gaCN => k_is)
    (case ggCN => k_is)
    (case exCN => k_is)
    (case hdCN => k_is)
    (case haCN => k_is)
    (case hmCN => k_is)
    (case keCN => k_is)
    (case kt_4_0 => (first | k_is | rfl | decide +kernel))
    (case kt_4_1 => (first | k_is | rfl | decide +kernel))
    (case kt_4_2 => (first | k_is | rfl | decide +kernel))
    (case kt_4_3 => (first | k_is | rfl | decide +kernel))
    (case kt_4_4 => (first | k_is | rfl | decide +kernel))
    (case kA_CR => (first | k_is | rfl | decide +kernel))
    (case kV_CR => (first | k_is | rfl | decide +kernel))
    (case gaCR => k_is)
    (case ggCR => k_is)
    (case exCR => k_is)
    (case hdCR => k_is)
    (case haCR => k_is)
    (case hmCR => k_is)
    (case keCR => k_is)
    (case zCN => (first | k_exc | k_is | decide +kernel))
    (case zCR => (first | k_exc | k_is | decide +kernel))
    (case xT => k_is)
    (case rT => (first | rfl | decide +kernel))
    (case saT => k_is)
    (case tyT => k_is)
    (case iT => k_is)
    (case tT => k_is)
    (case lT => k_is)
    (case cT => k_is)
    (case knT => k_is)
    (case xP => k_is)
    (case rP => (first | rfl | decide +kernel))
    (case saP => k_is)
    (case tyP => k_is)
    (case iP => k_is)
    (case tP => k_is)
    (case lP => k_is)
    (case cP => k_is)
    (case knP => k_is)
    (case xB => k_is)
    (case rB => (first | rfl | decide +kernel))
    (case saB => k_is)
    (case tyB => k_is)
    (case iB => k_is)
    (case tB => k_is)
    (case lB => k_is)
    (case cB => k_is)
    (case knB => k_is)
    (case nT => k_is)
    (case nP => k_is)
    (case nQ => k_is)
    (case nB => k_is)
#print axioms PySem.Challenge.cw_askladder_k01_refusals_holds
