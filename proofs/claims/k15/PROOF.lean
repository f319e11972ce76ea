import PyProof.Rows.All
import Wide.All
import OpenK.AllK
import Wide.FinOn
import HandS.ForMost
import HandS.IsInst
import HandS.StrMore
import HandS.SetKeys
import HandS.Property
import HandS.Defaults
import HandS.Zip
import HandS.Star
import HandS.Exc
import HandS.WordsExc
import HandS.Walk
import HandS.FStr
import KE.GoesEnum
import KE.KExcInit
import KE.KExcIs
import HandS.ExcInit
import HandS.ExcValue
import HandS.ExcField
import HandS.ExcIs
import HandS.HeadEnd
import HandS.DictComp
import HandS.WrittenGet
import HandS.RevRange
import HandS.Style
import HandS.TupAny
import KE.KDictPairs
import HandS.Wide
import PyProof.StrLawsRepr
import PyProof.ReprLen
import HandS.Head0
import HandS.Head1
import HandS.Head2
import HandS.HeadHook1
import HandS.HeadHook2
import HandS.HeadHook3
import PySem.Challenge.RW_labelframes_k15_folded_expressions
set_option Elab.async false
set_option linter.all false
set_option maxRecDepth 100000
set_option maxHeartbeats 4000000
namespace Z
open PySem PySem.Spec PyProof.Rows L2

theorem same_new {H : Hp} {p : Addr} {o : HO} (h : H p = none) : Same H (upd H p o) := fun b u e => by
  rw [upd_ne (ne_of_none e h)]; exact e
theorem same_t {K : PySem.W.Frag} {H H' : Hp} {a : Addr} {xs : List V} (e : Same H H') (h : SqT K H a xs) : SqT K H' a xs := by
  rcases h with r | r
  · rcases r with r | ⟨o, r⟩
    · exact .inl (.inl (e _ _ r))
    · exact .inl (.inr ⟨o, e _ _ r⟩)
  · exact .inr r

/-! a call of an own def, by its name -/
structure Kn (P : Program) (w : World) (K : PySem.W.Frag) (mg : Str → Option Value) (base : Heap) (CX : CXT) (x : Str) (k : Nat) (ps : List Str) (dvs : List V) (sp : Sp) : Prop where
  ex : ∃ f fd ds, FnOk P w K mg base CX k f fd ps sp ∧ mg x = some (.ref f) ∧ PySem.W.keepIn K (.ref f) = true ∧ Binds K fd ps ds ∧ Vals dvs ds
section
variable {X : Cx} {CX : CXT} {x : Str} {k j : Nat} {ps : List Str} {dvs : List V} {sp : Sp} {e : Expr} {es : List Expr} {t : TA} {p pos : Pos} {E : XK}
theorem pe_own (F : Kn X.prog X.w X.K X.mg X.base CX x k ps dvs sp) (hr : Room j X.A) (hkj : k ≤ j) (hx : Passes CX X E) (ha : PA X (e :: es) t) (hg : Gl X x := by rfl) (hdb : (x == ("__debug__" : Str)) = false := by decide)
    (he : starEach (e :: es) X.env = (false, eval e X.env) :: starEach es X.env := by rfl) (hpl : (backTo pos (starEach es X.env)).any (·.1) = false := by rfl) :
    PE X (.Call (.Name x p) (e :: es) [] pos) (tCall sp dvs E t) := by
  obtain ⟨f, fd, ds, F1, m, kp, b, vd⟩ := F.ex
  exact pe_call F1 (hr.mono hkj) hg m kp b vd hx ha hdb he hpl
end
/-! str * int -/
def rMulS : R2 := fun x y H Q => ∃ (z : Str) (n : Int), x = .str z ∧ y = .int n ∧ MulOk z n ∧ Q (.str (Txt.mul z n)) H
theorem op_mul_str {X : Cx} : OpR X (binaryOp .Mult) rMulS := by
  intro pins s σ H x y v u Q I rx ry h
  obtain ⟨z, n, rfl, rfl, hok, hq⟩ := h
  obtain ⟨t, rfl⟩ := rx
  obtain ⟨t', rfl⟩ := ry
  exact PySem.SB.mul hok fun t2 k => ⟨V.str (Txt.mul z n), H, I.tok k, ⟨t2, rfl⟩, hq⟩

/-! the pool: a list of three ints that calls may change -/
def PoolP (p : Addr) (h : Heap) : Prop := ∃ (i j k : Int) (its : List Value) (n : Nat), -(2 ^ 64) < i ∧ i < 2 ^ 64 ∧ Vals [.int i, .int j, .int k] its ∧ h.get? p = some { cls := .type "list", data := .seq its.toArray n }
def Pool (p : Addr) : HO := .ext (PoolP p)
theorem pool_ok {P : Program} {w : World} {H : Hp} {h : Heap} {p : Addr} (x : PoolP p h) : ObjOk P w H h p (Pool p) := by
  refine ⟨x, ?_, fun h1 h2 y k => ?_⟩
  · obtain ⟨i, j, k, its, n, _, _, _, e⟩ := x; exact ⟨_, e⟩
  · obtain ⟨i, j, k', its, n, a, b, c, e⟩ := y; exact ⟨i, j, k', its, n, a, b, c, k _ e⟩
theorem hok_pool_in {P : Program} {w : World} {H : Hp} {h : Heap} {p : Addr} (x : HOk P w H h) (e : H p = some (Pool p)) :
    ∃ i j k : Int, -(2 ^ 64) < i ∧ i < 2 ^ 64 ∧ HOk P w (upd H p (.lst [.int i, .int j, .int k])) h := by
  obtain ⟨⟨i, j, k, its, n, a, b, r, g⟩, _, _⟩ := x p _ e
  refine ⟨i, j, k, a, b, fun c u q => ?_⟩
  by_cases hc : c = p
  · subst hc; rw [upd_same] at q; cases q
    exact ⟨by show 3 ≤ sizeLine; decide, its, n, r, g⟩
  · rw [upd_ne hc] at q
    refine (x c u q).stay (fun b' v _ z => z) (fun b' z => ?_) fun b' xs z => ?_
    · rw [upd_ne (fun y => by subst y; rw [e] at z; cases z)]; exact z
    · rw [upd_ne (fun y => by subst y; rw [e] at z; cases z)]; exact z
theorem hok_pool_out {P : Program} {w : World} {H : Hp} {h : Heap} {p : Addr} {i j k : Int} (x : HOk P w H h) (e : H p = some (.lst [.int i, .int j, .int k])) (a : -(2 ^ 64) < i) (b : i < 2 ^ 64) : HOk P w (upd H p (Pool p)) h := by
  intro c u q
  by_cases hc : c = p
  · subst hc; rw [upd_same] at q; cases q
    obtain ⟨_, its, n, r, g⟩ := x c _ e
    exact pool_ok ⟨i, j, k, its, n, a, b, r, g⟩
  · rw [upd_ne hc] at q
    refine (x c u q).stay (fun b' v _ z => z) (fun b' z => ?_) fun b' xs z => ?_
    · rw [upd_ne (fun y => by subst y; rw [e] at z; cases z)]; exact z
    · rw [upd_ne (fun y => by subst y; rw [e] at z; cases z)]; exact z
/-- a def that reads and writes the pool as a list, told of the pool as a pool -/
theorem FnOk.pool {P : Program} {w : World} {K : PySem.W.Frag} {mg : Str → Option Value} {base : Heap} {k : Nat} {f : Addr} {fd : FuncData} {ps : List Str} {sp sp' : Sp}
    (F : FnOk P w K mg base CX0 k f fd ps sp)
    (h : ∀ vs H Q E, sp' vs H Q E → ∃ p, H p = some (Pool p) ∧ ∀ i j k : Int, -(2 ^ 64) < i → i < 2 ^ 64 → sp vs (upd H p (.lst [.int i, .int j, .int k]))
      (fun v H1 => ∃ i j k : Int, -(2 ^ 64) < i ∧ i < 2 ^ 64 ∧ H1 p = some (.lst [.int i, .int j, .int k]) ∧ Q v (upd H1 p (Pool p))) E) : FnOk P w K mg base CX0 k f fd ps sp' := by
  refine ⟨fun vs H Q E q => ?_, fun A outer s H args us vs Q E hr e0 hb hv q => ?_⟩
  · obtain ⟨p, _, z⟩ := h vs H Q E q
    exact F.len _ _ _ _ (z 0 0 0 (by decide) (by decide))
  · obtain ⟨p, hp, z⟩ := h vs H Q E q
    obtain ⟨i, j, k', a, b, hok⟩ := hok_pool_in e0.hok hp
    have nf : ∀ c, H c = none → upd H p (.lst [.int i, .int j, .int k']) c = none := fun c e => by
      rw [upd_ne (fun y => by subst y; rw [hp] at e; cases e)]; exact e
    have e1 : Env0 P w K mg base A outer s (upd H p (.lst [.int i, .int j, .int k'])) :=
      { frames := e0.frames, mod := e0.mod, bs := fun c o e => ⟨(e0.bs c o e).1, nf _ (e0.bs c o e).2⟩, bsz := e0.bsz, funs := e0.funs, frf := fun c e => nf _ (e0.frf c e), hok := hok, bare := e0.bare }
    refine codeAny_mono (F.run A outer s _ args us vs _ E hr e1 hb hv (z i j k' a b)) fun r s' hq => ?_
    cases r with
    | error er => exact hq
    | ok fl =>
      cases fl with
      | ret u =>
        obtain ⟨v, H1, o1, o2, un, hk, rv, i1, j1, k1, a1, b1, h1, qq⟩ := hq
        refine ⟨v, _, o1, o2, ?_, hok_pool_out hk h1 a1 b1, rv, qq⟩
        have np : ∀ c, H c = none → c ≠ p := fun c e y => by subst y; rw [hp] at e; cases e
        refine { keep := fun c o e n m m2 => un.keep c o e (nf c n) m m2, slot := fun c o e n m m2 => un.slot c o e (nf c n) m m2, free := fun c o e n m => ?_, there := fun c o e m => un.there c o e m, tups := fun c xs e => ?_, frzs := fun c o u e => ?_, tbls := fun c xs e => ?_ }
        · rw [upd_ne (np c n)]; exact un.free c o e (nf c n) m
        · have hc : c ≠ p := fun y => by subst y; rw [hp] at e; cases e
          rw [upd_ne hc]; exact un.tups c xs (by rw [upd_ne hc]; exact e)
        · have hc : c ≠ p := fun y => by subst y; rw [hp] at e; cases e
          rw [upd_ne hc]; exact un.frzs c o u (by rw [upd_ne hc]; exact e)
        · have hc : c ≠ p := fun y => by subst y; rw [hp] at e; cases e
          rw [upd_ne hc]; exact un.tbls c xs (by rw [upd_ne hc]; exact e)
      | next => exact hq
      | brk => exact hq
      | cont => exact hq
/-- a def that hands back such a list, told of it as a pool -/
theorem FnOk.poolNew {P : Program} {w : World} {K : PySem.W.Frag} {mg : Str → Option Value} {base : Heap} {k : Nat} {f : Addr} {fd : FuncData} {ps : List Str} {sp sp' : Sp}
    (F : FnOk P w K mg base CX0 k f fd ps sp)
    (h : ∀ vs H Q E, sp' vs H Q E → sp vs H (fun v H1 => ∃ p, ∃ i j k : Int, -(2 ^ 64) < i ∧ i < 2 ^ 64 ∧ H p = none ∧ H1 p = some (.lst [.int i, .int j, .int k]) ∧ Q v (upd H1 p (Pool p))) E) : FnOk P w K mg base CX0 k f fd ps sp' := by
  refine ⟨fun vs H Q E q => F.len _ _ _ _ (h vs H Q E q), fun A outer s H args us vs Q E hr e0 hb hv q => ?_⟩
  refine codeAny_mono (F.run A outer s _ args us vs _ E hr e0 hb hv (h vs H Q E q)) fun r s' hq => ?_
  cases r with
  | error er => exact hq
  | ok fl =>
    cases fl with
    | ret u =>
      obtain ⟨v, H1, o1, o2, un, hk, rv, p, i1, j1, k1, a1, b1, h0, h1, qq⟩ := hq
      refine ⟨v, _, o1, o2, ?_, hok_pool_out hk h1 a1 b1, rv, qq⟩
      refine { keep := fun c o e n m m2 => un.keep c o e n m m2, slot := fun c o e n m m2 => un.slot c o e n m m2, free := fun c o e n m => ?_, there := fun c o e m => un.there c o e m, tups := fun c xs e => ?_, frzs := fun c o u e => ?_, tbls := fun c xs e => ?_ }
      · have hc : c ≠ p := fun y => by
          subst y
          have z := un.free c o e n m
          rw [h1] at z; cases z
        rw [upd_ne hc]; exact un.free c o e n m
      · have hc : c ≠ p := fun y => by subst y; rw [h0] at e; cases e
        rw [upd_ne hc]; exact un.tups c xs e
      · have hc : c ≠ p := fun y => by subst y; rw [h0] at e; cases e
        rw [upd_ne hc]; exact un.frzs c o u e
      · have hc : c ≠ p := fun y => by subst y; rw [h0] at e; cases e
        rw [upd_ne hc]; exact un.tbls c xs e
    | next => exact hq
    | brk => exact hq
    | cont => exact hq
end Z
set_option Elab.async false
set_option linter.all false
set_option maxRecDepth 100000
set_option maxHeartbeats 4000000
namespace Z
open PySem PySem.Spec PyProof.Rows L2

/-- all but lists stand -/
def SameT (H H' : Hp) : Prop := ∀ b o, (∀ xs, o ≠ HO.lst xs) → H b = some o → H' b = some o
theorem Same.t {H H' : Hp} (e : Same H H') : SameT H H' := fun b o _ h => e b o h
theorem SameT.trans {H H1 H2 : Hp} (a : SameT H H1) (b : SameT H1 H2) : SameT H H2 := fun c o n h => b c o n (a c o n h)
theorem SameT.refl (H : Hp) : SameT H H := fun _ _ _ h => h
theorem sameT_list {H : Hp} {D : Addr} {xs ys : List V} (h : H D = some (.lst xs)) : SameT H (upd H D (.lst ys)) := fun b o n q => by
  by_cases e : b = D
  · subst e; rw [h] at q; cases q; exact absurd rfl (n xs)
  · rw [upd_ne e]; exact q
theorem sameT_t {K : PySem.W.Frag} {H H' : Hp} {a : Addr} {xs : List V} (e : SameT H H') (h : SqT K H a xs) : SqT K H' a xs := by
  rcases h with r | r
  · rcases r with r | ⟨o, r⟩
    · exact .inl (.inl (e _ _ (by intro _ q; cases q) r))
    · exact .inl (.inr ⟨o, e _ _ (by intro _ q; cases q) r⟩)
  · exact .inr r
theorem same_app {H H1 : Hp} {D : Addr} {ys : List V} (e : Same H H1) (h : H D = none) : Same H (upd H1 D (.lst ys)) := fun b o q => by
  rw [upd_ne (ne_of_none q h)]; exact e b o q

/-- a comprehension whose element only adds to the heap -/
theorem lc_ok {J : It} {n : Nat} {G : Hp → Prop} {Y : Nat → Hp → V → Hp → Prop} (w : Walk J n G Y) {g : TG} {te : TE} {vs : List Nat} {σ : L2.St} {H1 : Hp} {D : Addr} {Qd : Hp → Prop}
    (R : Nat → V → Hp → Prop) (hD : H1 D = none) (hn : n < sizeLine) (hG : ∀ H, Same H1 H → G H) (hR : ∀ i y H H', i < n → SameT H H' → R i y H → R i y H')
    (hY : ∀ i H x H', Y i H x H' → Same H H')
    (hs : ∀ i x H H', i < n → Same H1 H → Y i H x H' → ∀ Q : VK, (∀ y H4, Same H' H4 → R i y H4 → Q y H4) → g x (wipe σ vs) H' fun σ2 H2 => wipe σ2 vs = wipe σ vs ∧ te σ2 H2 Q)
    (hd : ∀ H acc, Same H1 H → H D = some (.lst acc) → acc.length = n → (∀ i y, acc[i]? = some y → R i y H) → Qd H) :
    ∃ W : Nat → Nat → Hp → Prop, (∃ m, W 0 m (upd H1 D (.lst []))) ∧ ∀ i m H, W i m H → (J.stop i H ∧ Qd H) ∨ (J.go i H ∧ ∃ Nx : Hp → Prop, (∀ H', Nx H' → ∃ m', m' < m ∧ W (i + 1) m' H') ∧ ∀ x H', J.yld i H x H' → g x (wipe σ vs) H' fun σ2 H2 => wipe σ2 vs = wipe σ vs ∧ tYes σ2 H2 fun b H3 =>
      if b = true then te σ2 H3 fun y H4 => ∃ acc, H4 D = some (.lst acc) ∧ acc.length < sizeLine ∧ Nx (upd H4 D (.lst (acc ++ [y]))) else Nx H3) := by
  refine lc_it w (fun i H => i ≤ n ∧ Same H1 H ∧ ∃ acc, H D = some (.lst acc) ∧ acc.length = i ∧ ∀ j y, acc[j]? = some y → R j y H) ⟨Nat.zero_le _, same_new hD, [], upd_same, rfl, fun j y q => by simp at q⟩ (fun i H _ q => hG H q.2.1) ?_ ?_
  · rintro i x H H' hi ⟨_, s1, acc, hacc, hl, ha⟩ y1
    have sY := hY i H x H' y1
    have := hs i x H H' hi s1 y1 (fun y H4 => ∃ acc, H4 D = some (.lst acc) ∧ acc.length < sizeLine ∧ (i + 1 ≤ n ∧ Same H1 (upd H4 D (.lst (acc ++ [y]))) ∧ ∃ acc', (upd H4 D (.lst (acc ++ [y]))) D = some (.lst acc') ∧ acc'.length = i + 1 ∧ ∀ j y', acc'[j]? = some y' → R j y' (upd H4 D (.lst (acc ++ [y])))))
      (fun y H4 s4 r4 => ⟨acc, s4 _ _ (sY _ _ hacc), by omega, hi, same_app ((s1.trans sY).trans s4) hD, acc ++ [y], upd_same, by simp [hl], fun j y' q => ?_⟩)
    · unfold tYes
      simp only [↓reduceIte]
      exact this
    · have h4 : H4 D = some (.lst acc) := s4 _ _ (sY _ _ hacc)
      have sT : SameT H4 (upd H4 D (.lst (acc ++ [y]))) := sameT_list h4
      by_cases hj : j < acc.length
      · rw [List.getElem?_append_left hj] at q
        exact hR j y' _ _ (by omega) (((Same.t sY).trans (Same.t s4)).trans sT) (ha j y' q)
      · have hj2 : j = acc.length := by
          have := (List.getElem?_eq_some_iff.mp q).1
          simp at this; omega
        subst hj2
        rw [List.getElem?_append_right (Nat.le_refl _)] at q
        simp at q
        subst q
        rw [hl]
        exact hR i y _ _ hi sT r4
  · rintro H ⟨_, s1, acc, hacc, hl, ha⟩
    exact hd H acc s1 hacc hl ha

/-! ### data -/
mutual
inductive Da (K : PySem.W.Frag) (H : Hp) : V → PyData → Prop
  | non : Da K H .non .none
  | bl (b : Bool) : Da K H (.bl b) (.bool b)
  | int (i : Int) : Da K H (.int i) (.int i)
  | str (x : Str) : x.length ≤ 1000000 → Da K H (.str x) (.str x)
  | lst {a : Addr} {xs : List V} {ds : List PyData} : SqL K H a xs → DaL K H xs ds → Da K H (.ref a) (.list ds)
  | tup {a : Addr} {xs : List V} {ds : List PyData} : SqT K H a xs → DaL K H xs ds → Da K H (.ref a) (.tuple ds)
  | dic {a : Addr} : H a = some (.dK []) → Da K H (.ref a) (.dict [])
inductive DaL (K : PySem.W.Frag) (H : Hp) : List V → List PyData → Prop
  | nil : DaL K H [] []
  | cons {v : V} {vs : List V} {d : PyData} {ds : List PyData} : Da K H v d → DaL K H vs ds → DaL K H (v :: vs) (d :: ds)
end
section
variable {K : PySem.W.Frag} {H H' : Hp}
mutual
theorem Da.mono (e : Same H H') : ∀ {v : V} {d : PyData}, Da K H v d → Da K H' v d
  | _, _, .non => .non
  | _, _, .bl b => .bl b
  | _, _, .int i => .int i
  | _, _, .str x h => .str x h
  | _, _, .lst h t => .lst (Same.seq e h) (DaL.mono e t)
  | _, _, .tup h t => .tup (same_t e h) (DaL.mono e t)
  | _, _, .dic h => .dic (e _ _ h)
theorem DaL.mono (e : Same H H') : ∀ {vs : List V} {ds : List PyData}, DaL K H vs ds → DaL K H' vs ds
  | _, _, .nil => .nil
  | _, _, .cons h t => .cons (Da.mono e h) (DaL.mono e t)
end
theorem DaL.length : ∀ {vs : List V} {ds : List PyData}, DaL K H vs ds → vs.length = ds.length
  | _, _, .nil => rfl
  | _, _, .cons _ t => by rw [List.length_cons, List.length_cons, DaL.length t]
theorem DaL.get : ∀ {vs : List V} {ds : List PyData} {i : Nat} {v : V}, DaL K H vs ds → vs[i]? = some v → ∃ d, ds[i]? = some d ∧ Da K H v d
  | _, _, _, _, .nil, e => by simp at e
  | _, _, 0, _, .cons h _, e => by simp at e; subst e; exact ⟨_, rfl, h⟩
  | _, _, i + 1, _, .cons _ t, e => by
    obtain ⟨d, h1, h2⟩ := DaL.get (i := i) t (by simpa using e)
    exact ⟨d, by simpa using h1, h2⟩
theorem DaL.get' : ∀ {vs : List V} {ds : List PyData} {i : Nat} {d : PyData}, DaL K H vs ds → ds[i]? = some d → ∃ v, vs[i]? = some v ∧ Da K H v d
  | _, _, _, _, .nil, e => by simp at e
  | _, _, 0, _, .cons h _, e => by simp at e; subst e; exact ⟨_, rfl, h⟩
  | _, _, i + 1, _, .cons _ t, e => by
    obtain ⟨d, h1, h2⟩ := DaL.get' (i := i) t (by simpa using e)
    exact ⟨d, by simpa using h1, h2⟩
theorem DaL.of : ∀ {vs : List V} {ds : List PyData}, vs.length = ds.length → (∀ (i : Nat) v d, vs[i]? = some v → ds[i]? = some d → Da K H v d) → DaL K H vs ds
  | [], [], _, _ => .nil
  | [], _ :: _, h, _ => by simp at h
  | _ :: _, [], h, _ => by simp at h
  | v :: vs, d :: ds, h, f => .cons (f 0 v d rfl rfl) (DaL.of (by simpa using h) fun i v d a b => f (i + 1) v d (by simpa using a) (by simpa using b))
/-- no lists, no dicts within: what tuples and scalars tell -/
def pureD : PyData → Bool
  | .list _ => false
  | .dict _ => false
  | .tuple ds => pureL ds
  | _ => true
where pureL : List PyData → Bool
  | [] => true
  | d :: ds => pureD d && pureL ds
mutual
theorem Da.monoT (e : SameT H H') : ∀ {v : V} {d : PyData}, pureD d = true → Da K H v d → Da K H' v d
  | _, _, _, .non => .non
  | _, _, _, .bl b => .bl b
  | _, _, _, .int i => .int i
  | _, _, _, .str x h => .str x h
  | _, _, p, .lst h t => by simp [pureD] at p
  | _, _, p, .tup h t => .tup (sameT_t e h) (DaL.monoT e (by simpa [pureD] using p) t)
  | _, _, p, .dic h => by simp [pureD] at p
theorem DaL.monoT (e : SameT H H') : ∀ {vs : List V} {ds : List PyData}, pureD.pureL ds = true → DaL K H vs ds → DaL K H' vs ds
  | _, _, _, .nil => .nil
  | _, _, p, .cons h t => by
    simp only [pureD.pureL, Bool.and_eq_true] at p
    exact .cons (Da.monoT e p.1 h) (DaL.monoT e p.2 t)
end
/-- the type's name -/
def tyD : PyData → String
  | .none => "NoneType" | .bool _ => "bool" | .int _ => "int" | .str _ => "str" | .list _ => "list" | .tuple _ => "tuple" | .dict _ => "dict"
theorem Da.ty {v : V} {d : PyData} (h : Da K H v d) : TyX K H v (.type (tyD d)) := by
  cases h with
  | non => exact .base .non
  | bl b => exact .base (.bl b)
  | int i => exact .base (.int i)
  | str x _ => exact .base (.str x)
  | lst h t =>
    rcases h with (h | ⟨o, h⟩) | ⟨o, its, n, h1, h2, _⟩
    · exact .base (.lst h)
    · exact .base (.frz h)
    · exact .kList h1 h2
  | tup h t =>
    rcases h with (h | ⟨o, h⟩) | ⟨o, its, n, h1, h2, _⟩
    · exact .base (.tup h)
    · exact .fTuple h
    · exact .kTuple h1 h2
  | dic h => exact .base (.dK h)
/-- isinstance of data -/
def isD (d : PyData) (T : String) : Bool := tyD d == T || (tyD d == "bool" && T == "int")
def tys : List String := ["NoneType", "bool", "int", "str", "list", "tuple", "dict"]
theorem kit_all : (tys.all fun a => ["int", "str", "bool", "tuple", "list", "dict"].all fun b => kitB a b == some (a == b || (a == "bool" && b == "int"))) = true := by decide +kernel
theorem tyD_mem (d : PyData) : tyD d ∈ tys := by cases d <;> simp [tyD, tys]
theorem kit_D (d : PyData) (T : String) (hT : T ∈ ["int", "str", "bool", "tuple", "list", "dict"]) : PySem.W.kitOne K (.type (tyD d)) (.type T) = some (isD d T) :=
  kit_ty (eq_of_beq (List.all_eq_true.mp (List.all_eq_true.mp kit_all _ (tyD_mem d)) T hT))
theorem isi_D {v : V} {d : PyData} {T : String} {Q : VK} (h : Da K H v d) (hT : T ∈ ["int", "str", "bool", "tuple", "list", "dict"]) (q : Q (.bl (isD d T)) H) : rIsi K [v, .ty T] H Q :=
  ⟨_, _, _, _, _, rfl, .ty T, h.ty, kit_D d T hT, q⟩
end
end Z
set_option Elab.async false
set_option linter.all false
set_option maxRecDepth 100000
set_option maxHeartbeats 4000000
/-! the rules whose reading speaks of the written part, with that part as a letter of its own (in a comprehension's block it must not hang on the block) -/
namespace Z
open PySem PySem.Spec PyProof.Rows L2
section
variable {X : Cx} {K : PySem.W.Frag}
theorem k_ixL (h : X.K = K := by rfl) : IxR X (rIxL K) := by subst h; exact ix_list
theorem k_ixT (h : X.K = K := by rfl) : IxR X (rIxT K) := by subst h; exact ix_tup
theorem k_ix (h : X.K = K := by rfl) : IxR X (rIx K) := by subst h; exact ix_seq
theorem k_isi (h : X.K = K := by rfl) : CallR X (.builtin "isinstance") (rIsi K) := by subst h; exact call_isi
theorem k_in (h : X.K = K := by rfl) : OpR X (compareOp .In) (rIn K false) := by subst h; exact op_in_seq
theorem k_notIn (h : X.K = K := by rfl) : OpR X (compareOp .NotIn) (rIn K true) := by subst h; exact op_notIn_seq
theorem k_eqD (hu : X.A.units + 64 < cLine) (h : X.K = K := by rfl) : OpR X (compareOp .Eq) (rEqD K) := by subst h; exact op_eqD hu
theorem k_neD (hu : X.A.units + 64 < cLine) (h : X.K = K := by rfl) : OpR X (compareOp .NotEq) (rNeD K) := by subst h; exact op_neD hu
def rLenQ (K : PySem.W.Frag) : List V → Hp → VK → Prop := fun xs H Q => ∃ p ys, xs = [.ref p] ∧ (SqL K H p ys ∨ SqT K H p ys) ∧ Q (.int ys.length) H
theorem k_len (h : X.K = K := by rfl) : CallR X (.builtin "len") (rLenQ K) := by subst h; exact call_len_seq
def rTupOf (K : PySem.W.Frag) : List V → Hp → VK → Prop := fun xs H Q => ∃ p ys, xs = [.ref p] ∧ ((SqL K H p ys ∧ ∀ l, H l = none → Q (.ref l) (upd H l (.tup ys))) ∨ (SqT K H p ys ∧ Q (.ref p) H))
theorem k_tupOf (h : X.K = K := by rfl) : CallR X (.type "tuple") (rTupOf K) := by subst h; exact call_tuple_of
def rListOf (K : PySem.W.Frag) : List V → Hp → VK → Prop := fun xs H Q => ∃ p ys, xs = [.ref p] ∧ (SqL K H p ys ∨ SqT K H p ys) ∧ ∀ l, H l = none → Q (.ref l) (upd H l (.lst ys))
theorem k_listOf (h : X.K = K := by rfl) : CallR X (.type "list") (rListOf K) := by subst h; exact call_list_of
theorem k_all (hc : X.calm = true) (h : X.K = K := by rfl) : CallR X (.builtin "all") (rAll K) := by subst h; exact cr_all hc
theorem k_slL (h : X.K = K := by rfl) : SlR X (rSlL K) := by subst h; exact sl_list
theorem k_slT (h : X.K = K := by rfl) : SlR X (rSlT K) := by subst h; exact sl_tup
theorem k_catT (h : X.K = K := by rfl) : OpR X (binaryOp .Add) (rCatT K) := by subst h; exact op_catT
variable {tg l e o a b : Expr} {es : List Expr} {tl te to : TE} {t ta : TA} {pos apos cpos p : Pos}
theorem k_list (hl : PE X l tl) (h : X.K = K := by rfl) : PI X tg l (iList K tl) := by subst h; exact pi_list hl
theorem k_tup (hl : PE X l tl) (h : X.K = K := by rfl) : PI X tg l (iTup K tl) := by subst h; exact pi_tup hl
theorem k_zip {e2 : Expr} {tpos : Pos} {elts : List Expr} {kk : Nat} (hm : X.mg "zip" = none) (ha : PA X [e, e2] ta) (h : X.K = K := by rfl) (hg : Gl X "zip" := by rfl)
    (hs : starEach [e, e2] X.env = (false, eval e X.env) :: starEach [e2] X.env := by rfl) (hpl : (backTo pos (starEach [e2] X.env)).any (·.1) = false := by rfl) :
    PI X (.Tuple elts kk tpos) (.Call (.Name "zip" p) [e, e2] [] pos) (RZ.iZipA K ta) := by subst h; exact RZ.pi_zipA hg hm ha hs hpl
theorem k_pgT {es : List Expr} {k : Nat} {t : TGs} {n : Nat} (h : PGs X es t) (hK : X.K = K := by rfl) (hc : X.calm = true := by rfl) (hn : (assignEach es X.env).length = n := by rfl) (hst : (assignEach es X.env).findIdx? (·.1) = none := by rfl) :
    PG X (.Tuple es k pos) (gTup K n t) := by subst hK; exact pg_tup hc h hn hst
theorem k_bm {T id : String} {name : Str} {r : V → List V → Hp → VK → Prop} (pa : PlainAttrs T) (slot : Slot T name id) (hty : typeOf (.builtin id) = pure (.type "method_descriptor")) (hm : MtR X id r) (ho : PE X o to) (ha : PA X (e :: es) t)
    (hK : X.K = K := by rfl)
    (hbase : attributeBase o name X.env (eval o X.env) = eval o X.env := by rfl)
    (hfew : ((backTo cpos (starEach (e :: es) X.env)).all (fun x => !x.1) && (backToKw cpos (keywordEach [] X.env)).all (fun x => x.1.isSome)
      && decide ((e :: es).length + ([] : List Keyword).length + (if ([] : List Keyword).isEmpty then 0 else 1) < 30)) = true := by rfl)
    (hline : (apos.endLine == cpos.line) = true := by rfl) (hs : starEach (e :: es) X.env = (false, eval e X.env) :: starEach es X.env := by rfl) (hplain : (backTo cpos (starEach es X.env)).any (·.1) = false := by rfl) :
    PE X (.Call (.Attribute o name apos) (e :: es) [] cpos) (tBM K T r to t) := by subst hK; exact pe_bm pa slot hty hm ho ha hbase hfew hline hs hplain
theorem k_bm0 {T id : String} {name : Str} {r : V → List V → Hp → VK → Prop} (pa : PlainAttrs T) (slot : Slot T name id) (hty : typeOf (.builtin id) = pure (.type "method_descriptor")) (hm : MtR X id r) (ho : PE X o to)
    (hK : X.K = K := by rfl) (hbase : attributeBase o name X.env (eval o X.env) = eval o X.env := by rfl) (hline : (apos.endLine == cpos.line) = true := by rfl) : PE X (.Call (.Attribute o name apos) [] [] cpos) (tBM0 K T r to) := by
  subst hK; exact pe_bm0 pa slot hty hm ho hbase hline
/-- join, split of texts, told by values -/
def rJoin (K : PySem.W.Frag) : V → List V → Hp → VK → Prop := fun x xs H Q => ∃ a p, ∃ ys : List Str, x = .str a ∧ xs = [.ref p] ∧ (SqL K H p (ys.map V.str) ∨ SqT K H p (ys.map V.str)) ∧
      (ys.map (·.length)).sum + ys.length * a.length ≤ 16777216 ∧ Q (.str (Txt.join a ys)) H
theorem k_join (ho : PE X o to) (he : PE X e te) (hK : X.K = K := by rfl) (hs : starEach [e] X.env = [(false, eval e X.env)] := by rfl) (hbase : attributeBase o "join" X.env (eval o X.env) = eval o X.env := by rfl) (hline : (apos.endLine == pos.line) = true := by rfl) :
    PE X (.Call (.Attribute o "join" apos) [e] [] pos) (tM1 (rJoin K) to te) := by subst hK; exact pe_join ho he hs hbase hline
theorem k_star (he : PE X e te) (hr : PA X es t) (hK : X.K = K := by rfl) (hs : starEach (.Starred e p :: es) X.env = (true, eval e X.env) :: starEach es X.env := by rfl) : PA X (.Starred e p :: es) (StX.tStar K te t) := by
  subst hK; exact StX.pa_star he hr hs
theorem k_fld {f : Str} (he : PE X e te) (hb : attributeBase e f X.env (eval e X.env) = eval e X.env) (hK : X.K = K := by rfl) : PE X (.Attribute e f pos) (tFld K te f) := by subst hK; exact pe_fld he hb
end
end Z
set_option Elab.async false
set_option linter.all false
set_option maxRecDepth 100000
set_option maxHeartbeats 4000000
/-! enumerate(t), t a tuple -/
namespace Z
open PySem PySem.Spec PyProof.Rows L2
theorem meets_enum_new1 {v : Value} {o : Obj} {H : Heap → Prop} (B : Begins v o H) :
    Meets (Builtin.«enumerate.__new__» ⟨[.type "enumerate", v], []⟩) (fun _ R s => H s.heap ∧
      R (.ok (.ret (.ref (s.heap.push o).objs.size))) { s with heap := (s.heap.push o).push { cls := .type "enumerate", data := .fields #[.none, .bool false, .ref s.heap.objs.size, rawInt 0, .none, .none] } }) :=
  .of_wp fun prog w A R s h => by
    obtain ⟨hp, g, d, tk, os⟩ := s; obtain ⟨h1, h⟩ := h
    have hsub := sub_enumerate
    have q1 : ∀ {A' : Around} {E : Value → Shared → Prop} {Q : Value → Shared → Prop}, Q (.ref hp.objs.size) ⟨hp.push o, g, d, tk, os⟩ → wpAny (model prog w) A' (pyIter v) Q E ⟨hp, g, d, tk, os⟩ :=
      fun q => B.iter prog w _ _ ⟨hp, g, d, tk, os⟩ _ h1 q
    wp_walk using q1
    refine wpAny_stack_any fun st => wpAny_pure ?_
    split
    · rename_i c _ _ _ _ _
      cases (c == Value.type "enumerate")
      · wp_walk using q1
        exact ⟨_, rfl, h⟩
      · wp_walk using q1
        exact ⟨_, rfl, h⟩
    · wp_walk using q1
      exact ⟨_, rfl, h⟩
end Z
namespace Z
open PySem PySem.Spec PyProof.Rows L2
section
variable {prog : Program} {w : World} {A : Around} {E : Value → Shared → Prop} {s : Shared}
theorem call_enumT {v : Value} {o : Obj} {H : Heap → Prop} {Q : Value → Shared → Prop} (B : Begins v o H) (h1 : H s.heap)
    (h : ∀ h', IsEnum h' (s.heap.objs.size + 1) s.heap.objs.size 0 .none → h'.get? s.heap.objs.size = some o → h'.objs.size = s.heap.objs.size + 2 → (∀ b o, s.heap.get? b = some o → h'.get? b = some o) → Q (.ref (s.heap.objs.size + 1)) { s with heap := h' }) :
    wpAny (model prog w) A (call (.type "enumerate") [v]) Q E s := by
  refine callType_new F.called_enumerate (by decide) (F.typeCall_enumerate_1 _) (F.newCall_enumerate_1 _) (fun obj => F.args_object_init_2 obj _) F.entry_enumerate_new (meets_enum_new1 B) ⟨h1, ?_⟩
  have hz : (s.heap.push o).objs.size = s.heap.objs.size + 1 := Heap.size_push ..
  show _ ∧ _
  rw [hz]
  have q := Heap.get?_push_size (s.heap.push o) (o := { cls := .type "enumerate", data := .fields #[.none, .bool false, .ref s.heap.objs.size, rawInt 0, .none, .none] }) rfl
  rw [hz] at q
  exact ⟨⟨_, q, rfl⟩, h _ q (Heap.get?_push_of_some _ (Heap.get?_push_size _ B.free)) (by rw [Heap.size_push, hz]) fun b o x => Heap.get?_push_of_some _ (Heap.get?_push_of_some _ x)⟩
end
def IteT (K : PySem.W.Frag) (a : Addr) : It :=
  ⟨fun i H => ∃ (xs : List V) (x : V), SqT K H a xs ∧ xs[i]? = some x, fun i H v H' => ∃ T x, v = .ref T ∧ H T = none ∧ H' = upd H T (.tup [.int (i : Nat), x]) ∧ ∀ xs, SqT K H a xs → xs[i]? = some x, fun i H => ∃ xs : List V, SqT K H a xs ∧ xs.length ≤ i⟩
theorem turn_enumT {P : Program} {w : World} {K : PySem.W.Frag} {elts : List Expr} {kk : Nat} {tpos : Pos} (a e it : Addr) :
    Turn P w K (.Tuple elts kk tpos) (IteT K a) [e, it] e (fun i h => (∃ old, IsEnum h e it ((i : Nat) : Int) old) ∧ h.IsTupleIter it a i ∧ e ≠ it ∧ i < i + 1) where
  mem := by simp
  obj := fun i h st b hb => by
    obtain ⟨⟨old, he⟩, ⟨o, ho, hc, hd⟩, _⟩ := st
    rcases (show b = e ∨ b = it by simpa using hb) with z | z
    · subst z; exact ⟨_, he, fun v q => nomatch q⟩
    · subst z; exact ⟨o, ho, fun v q => by rw [hd] at q; cases q⟩
  keep := fun i h h' ⟨⟨old, he⟩, hi, hne⟩ k => ⟨⟨old, k e (by simp) _ he⟩, hi.at fun o q => k it (by simp) o q, hne⟩
  item := by
    intro X hP hw hK hc i pins s σ H E I hf ⟨⟨old, he⟩, hit, hne, _⟩ ⟨xs, x, hq, hx⟩
    subst hP hw hK
    obtain ⟨its, rv, p, hz⟩ := I.tuple hq
    obtain ⟨u, hu, ru⟩ := rv.get hx
    have hel : e < s.heap.objs.size := Heap.lt_size he
    have hil : it < s.heap.objs.size := by obtain ⟨_, q, _⟩ := hit; exact Heap.lt_size q
    have hai : a ≠ it := by
      rintro rfl
      obtain ⟨_, q, c, _⟩ := hit
      obtain ⟨_, q', c', _⟩ := p
      rw [q] at q'; cases q'; rw [c] at c'; injection c' with c'; exact absurd c' (by decide)
    have hae : e ≠ a := by
      rintro rfl
      obtain ⟨_, q', c', _⟩ := p
      rw [(show s.heap.get? e = _ from he)] at q'; cases q'; injection c' with c'; exact absurd c' (by decide)
    have hlt : i < its.toArray.size := by
      have := (List.getElem?_eq_some_iff.mp hu).1
      simpa using this
    refine wpAny_pyNext_enum_itemD (Draws.tuple (A := X.A.in1) (I.ok.hd hc) it a hai its.toArray) he ⟨hit, p⟩ hlt hne (by simp [hne, hae]) fun x' h' tk hx' ho hst hT hsz hk => ?_
    have hxu : x' = u := by
      have : its.toArray[i]? = some u := by simpa using hu
      rw [this] at hx'; exact (Option.some.inj hx').symm
    subst hxu
    refine ⟨_, rfl, wpAny_letOwnedTupleGo_enum (s := { s with heap := h', toks := tk + 1 }) ho fun h'' he' sb => ?_⟩
    have hT2 : h''.get? s.heap.objs.size = some { cls := .type "tuple", data := .seq #[.int i tk, x'] } := (sb.2 _ (Nat.ne_of_gt hel)).trans hT
    have new : ObjOk X.prog X.w (upd H s.heap.objs.size (.tup [.int (i : Nat), x])) h'' s.heap.objs.size (.tup [.int (i : Nat), x]) :=
      ⟨by show 2 ≤ sizeLine; decide, [.int i tk, x'], .cons ⟨_, rfl⟩ (.cons ru .nil), ⟨_, hT2, rfl, _, rfl⟩⟩
    have I1 : Inv X pins σ (upd H s.heap.objs.size (.tup [.int (i : Nat), x])) { s with heap := h'', toks := tk + 1 } :=
      I.turnedNew (ch := [e, it]) (fun b ob hb q => (sb.2 b (fun z => hb (by simp [z]))).trans (hk b ob (fun z => hb (by simp [z])) (fun z => hb (by simp [z])) q)) hf (Nat.le_refl _) new
    refine ⟨.ref s.heap.objs.size, _, I1, rfl, ⟨_, x, rfl, I.hok.fresh (Nat.le_refl _), rfl, fun ys hy => by rw [I.tuple_inj hy hq]; exact hx⟩, ⟨⟨x', ?_⟩, hst.1.at fun o q => (sb.2 it (Ne.symm hne)).trans q, hne, by omega⟩, fun b hb => ?_⟩
    · rw [show ((i + 1 : Nat) : Int) = (i : Int) + 1 from by omega]; exact he'
    · have hb' : b < s.heap.objs.size := by
        rcases (show b = e ∨ b = it by simpa using hb) with z | z
        · subst z; exact hel
        · subst z; exact hil
      rw [upd_ne (Nat.ne_of_lt hb')]
      exact (hf b hb).1
  done := by
    intro X hP hw hK hc i pins s σ H E I hf ⟨⟨old, he⟩, hit, hne, _⟩ ⟨xs, hq, hx⟩
    subst hP hw hK
    obtain ⟨its, rv, p, hz⟩ := I.tuple hq
    have hl := rv.length
    have hai : a ≠ it := by
      rintro rfl
      obtain ⟨_, q, c, _⟩ := hit
      obtain ⟨_, q', c', _⟩ := p
      rw [q] at q'; cases q'; rw [c] at c'; injection c' with c'; exact absurd c' (by decide)
    obtain ⟨f0, f1, f2, f3, f4, f5⟩ := hf it (by simp)
    refine wpAny_pyNext_enum_endD (P := fun i v => its.toArray[i]? = some v) (St := fun n h => h.IsTupleIter it a i ∧ h.IsTuple a its.toArray) (fp := [it, a]) (n := 0) ?_ he ⟨hit, p⟩ fun h' eb => ⟨rfl, I.turned (t' := s.toks) (fun b o hb q => eb b o hb q) f0 f1 f3 f4 f5⟩
    exact { live := fun _ _ st => let ⟨o, ho, _⟩ := st.1; ⟨o, ho⟩, frame := fun _ _ _ st hk => ⟨st.1.at fun o e => hk it (by simp) o e, st.2.at fun o e => hk a (by simp) o e⟩, item := fun j s Q E hi st hQ => absurd hi (Nat.not_lt_zero _), done := fun s Q E st hE => wpAny_nextOf_tuple_end (show X.A.in1.handled = none from I.ok.hd hc) st.1 st.2 (by simp; omega) hE }
  self := fun A i s Q E ⟨⟨_, he⟩, _⟩ h => wpAny_pyIter_enum he h
def iEnumT (K : PySem.W.Frag) (ta : TA) : TI := fun σ H R => ta σ H fun vs H1 => ∃ a xs, vs = [.ref a] ∧ SqT K H1 a xs ∧ R (IteT K a) H1
theorem pi_enumT {X : Cx} {K : PySem.W.Frag} {e : Expr} {ta : TA} {p pos tpos : Pos} {elts : List Expr} {kk : Nat} (hm : X.mg "enumerate" = none) (ha : PA X [e] ta) (hK : X.K = K := by rfl) (hg : Gl X "enumerate" := by rfl) (hs : starEach [e] X.env = [(false, eval e X.env)] := by rfl) :
    PI X (.Tuple elts kk tpos) (.Call (.Name "enumerate" p) [e] [] pos) (iEnumT K ta) := by
  subst hK
  refine ⟨fun pins s σ H R I h => ?_⟩
  refine Call_ (ld_blt I hg hm boot_enumerate (PyProof.Rows.callWith_type1 (thn (ha.run pos pins s σ H _ I h) fun us s1 ⟨vs, H1, I1, r1, q1⟩ => ?_) hs rfl))
  obtain ⟨a, xs, ex, hq, q⟩ := q1
  subst ex
  cases r1 with
  | cons r rr =>
    cases rr
    cases r
    obtain ⟨its, rv, p', hz⟩ := I1.tuple hq
    refine call_enumT (begins_tuple a its.toArray) p' fun h' he hit hsz hk => wpAny_pyIter_enum he ?_
    have I2 : Inv X pins σ H1 { s1 with heap := h' } := I1.kept (t' := s1.toks) hk
    refine ⟨s1.heap.objs.size + 1, [s1.heap.objs.size + 1, s1.heap.objs.size], _, _, H1, rfl, I2, turn_enumT a (s1.heap.objs.size + 1) s1.heap.objs.size, ⟨⟨.none, he⟩, ⟨_, hit, rfl, rfl⟩, Nat.succ_ne_self _, Nat.zero_lt_one⟩, fun b hb => ?_, q⟩
    have hle : s1.heap.objs.size ≤ b := by
      rcases (show b = s1.heap.objs.size + 1 ∨ b = s1.heap.objs.size by simpa using hb) with z | z
      · rw [z]; exact Nat.le_succ _
      · rw [z]; exact Nat.le_refl _
    exact I1.fpOk hle (I1.hok.fresh hle)
theorem walk_enumT {K : PySem.W.Frag} {a : Addr} {xs : List V} : Walk (IteT K a) xs.length (fun H => SqT K H a xs) (YPair (fun i => some (.int (i : Nat))) (fun i => xs[i]?)) where
  goes := fun i H hi h => ⟨xs, xs[i], h, List.getElem?_eq_getElem hi⟩
  stops := fun H h => ⟨xs, h, Nat.le_refl _⟩
  yields := fun i H x H' hi h ⟨t, v, e1, e2, e3, e4⟩ => ⟨t, _, v, e1, e2, e3, rfl, e4 _ h⟩
end Z
set_option Elab.async false
set_option linter.all false
set_option maxRecDepth 100000
set_option maxHeartbeats 4000000
/-! errors of own classes as values: made (by place or by a word), their one field stored and read, isinstance -/
namespace ZE
open PySem
open Builtin Builtin.ObjectAttr
section
variable {pr : Program} {w : World} {A : Around} {E : Value → Shared → Prop} {R : Result → Shared → Prop} {hp : Heap} {gs : Array GenState} {dr : Drawn} {tk : Nat} {os : OsState}
variable {nm qn : Str} {C N : Addr} {bs bm tail : List Value} {hd : Bool} {sn : List Str} {sub : List Value} {ab : Bool} {col : Option Bool} {dd : Option Addr} {u0 u1 u2 u3 u5 : Option Value} {B idN idI : String}

theorem newK_check {M : Model} (FB : ExcBaseFacts B idN idI tail) (same : ∀ Y : String, bm.contains (.type Y) = tail.contains (.type Y)) {ps : List Value} {kw : List (Str × Value)} {Q : Unit → Shared → Prop}
    (oC : hp.get? C = some (excClassObj nm qn C N bs bm hd sn sub ab col dd u0 u1 u2 u3 u5 idN)) (k : Q () ⟨hp, gs, dr, tk, os⟩) : wpAny M A (checkBuiltinCall idN ⟨.ref C :: ps, kw⟩) Q E ⟨hp, gs, dr, tk, os⟩ := by
  have inB : (Value.ref C :: bm).contains (.type B) = true := by rw [List.contains_cons, same, FB.hasB, Bool.or_true]
  have nost := FB.noStar
  simp only [checkBuiltinCall, FB.newKind, FB.newSplit, FB.newRow]
  repeat (first | refine wpAny_loadPart_at oC ?_ | (refine wpAny_isSubtype_exc oC ?_; rw [inB]) | refine wpAny_staticBase_exc oC ?_ | refine wpAny_madeBy_exc oC ?_ | simp only [bne_self_eq_false, Bool.false_eq_true, if_false] | wp_step)
  exact k
theorem newK_run (FB : ExcBaseFacts B idN idI tail) (same : ∀ Y : String, bm.contains (.type Y) = tail.contains (.type Y)) {ps : List Value} {kw : List (Str × Value)}
    (oC : hp.get? C = some (excClassObj nm qn C N bs bm hd sn sub ab col dd u0 u1 u2 u3 u5 idN)) (small : ps.length ≤ sizeLine)
    (k : R (.ok (.ret (.ref (hp.objs.size + 1)))) ⟨(hp.push (W.kdv_tup ps)).push (HandSPX.excO C hp.objs.size), gs, dr, tk, os⟩) :
    codeAny (model pr w) A (.builtin idN ⟨.ref C :: ps, kw⟩) R ⟨hp, gs, dr, tk, os⟩ := by
  have en := FB.ends
  have inB : (Value.ref C :: bm).contains (.type B) = true := by rw [List.contains_cons, same, FB.hasB, Bool.or_true]
  have inA : (Value.ref C :: bm).contains (.type "AttributeError") = false := by rw [List.contains_cons, same, FB.noAttr]; rfl
  have inN : (Value.ref C :: bm).contains (.type "NameError") = false := by rw [List.contains_cons, same, FB.noName]; rfl
  refine codeAny_builtinAt FB.entry ?_
  unfold Builtin.«BaseException.__new__»
  refine wpAt_bind ?_
  show wpAt _ _ _ (stack >>= _) _ _ _
  refine wpAt_bind (wpAt_stack fun _ _ => wpAt_of_wpAny ?_)
  wp_walk
  refine wpAt_of_wpAny ?_
  rw [FB.owner]
  repeat (first | with_reducible refine wpAny_madeHere_exc FB.canon oC ?_ | with_reducible refine wpAny_loadPart_at oC ?_ | (with_reducible refine wpAny_isSubtype_exc oC ?_; first | rw [inB] | rw [inA] | rw [inN]) | wp_step)
  show R _ _
  rw [Heap.size_push]
  exact k
theorem typeK_run (FB : ExcBaseFacts B idN idI tail) (same : ∀ Y : String, bm.contains (.type Y) = tail.contains (.type Y)) {ps : List Value} {kw : List (Str × Value)} {fI : Addr} {Q : Fin → Shared → Prop}
    (oC : hp.get? C = some (excClassObj nm qn C N bs bm hd sn sub ab col dd u0 u1 u2 u3 u5 idN))
    (li : W.Looks (model pr w) hp (typeLookup (.ref C) "__init__") (some (.ref fI))) (lb : ∀ self, W.Looks (model pr w) hp (bindSpecial (.ref fI) self) (.ref fI, [self])) (small : ps.length ≤ sizeLine)
    (k : codeAny (model pr w) A (.call (.ref fI) ⟨.ref (hp.objs.size + 1) :: ps, kw⟩)
      (fun r s2 => match r with | .error e => E e s2 | .ok (.ret v) => v = .none ∧ Q (.done (.ret (.ref (hp.objs.size + 1)))) s2 | .ok _ => False)
      ⟨(hp.push (W.kdv_tup ps)).push (HandSPX.excO C hp.objs.size), gs, dr, tk, os⟩) :
    wpAny (model pr w) A (Builtin.«type.__call__» ⟨.ref C :: ps, kw⟩) Q E ⟨hp, gs, dr, tk, os⟩ := by
  repeat (first | with_reducible refine wpAny_loadPart_at oC ?_ | with_reducible refine wpAny_madeBy_exc oC ?_ | wp_step)
  refine codeAny_call_builtin_code (Code.quiet_builtin _ FB.quiet) (newK_check FB same oC ?_)
  refine newK_run FB same oC small ?_
  show wpAny _ _ _ _ _ _
  have st : ∀ b o, hp.get? b = some o → ((hp.push (W.kdv_tup ps)).push (HandSPX.excO C hp.objs.size)).get? b = some o := fun b o e => Heap.get?_push_of_some _ (Heap.get?_push_of_some _ e)
  have oC2 := st _ _ oC
  have oE : ((hp.push (W.kdv_tup ps)).push (HandSPX.excO C hp.objs.size)).get? (hp.objs.size + 1) = some (HandSPX.excO C hp.objs.size) := by heap_get
  have inC : (Value.ref C :: bm).contains (.ref C) = true := by simp
  have li2 := li.keeps st
  have lb2 := (lb (.ref (hp.objs.size + 1))).keeps st
  unfold isInstance
  repeat (first | with_reducible refine wpAny_loadPart_at oE ?_ | (with_reducible refine wpAny_isSubtype_exc oC2 ?_; rw [inC]) | wp_step)
  show wpAny _ _ (typeLookup (.ref C) _) _ _ _
  refine li2.at ?_
  refine wpAny_holding (wpAny_bind (lb2.at ?_))
  refine wpAny_bind (wpAny_call (codeAny_mono k fun r s2 z => ?_))
  rcases r with e | (v | _ | _ | _) <;> first | exact z | exact z.elim | skip
  obtain ⟨rfl, z2⟩ := z
  first
    | exact wpAny_pure (wpAny_pure z2)
    | (wp_walk; exact z2)
theorem typeK_check {M : Model} {ps : List Value} {kw : List (Str × Value)} {Q : Unit → Shared → Prop} (oC : hp.get? C = some (excClassObj nm qn C N bs bm hd sn sub ab col dd u0 u1 u2 u3 u5 idN))
    (k : Q () ⟨hp, gs, dr, tk, os⟩) : wpAny M A (checkBuiltinCall "type.__call__" ⟨.ref C :: ps, kw⟩) Q E ⟨hp, gs, dr, tk, os⟩ := by
  have z := tc_sub
  have ty : (⟨hp, gs, dr, tk, os⟩ : Shared).TypeIs (.ref C) "type" := ⟨_, oC, rfl⟩
  simp only [checkBuiltinCall, tc_kind, tc_split]
  repeat (any_goals (first | assumption | with_reducible refine wpAny_loadPart_at oC ?_ | with_reducible refine wpAny_onRaise ?_ | with_reducible refine wpAny_map ?_ | wp_step))
/-- C(.., k = v, ..), C an own error class with its own __init__ -/
theorem errK_run (FB : ExcBaseFacts B idN idI tail) (same : ∀ Y : String, bm.contains (.type Y) = tail.contains (.type Y)) {ps : List Value} {kw : List (Str × Value)} {fI : Addr}
    (oC : hp.get? C = some (excClassObj nm qn C N bs bm hd sn sub ab col dd u0 u1 u2 u3 u5 idN))
    (li : W.Looks (model pr w) hp (typeLookup (.ref C) "__init__") (some (.ref fI))) (lb : ∀ self, W.Looks (model pr w) hp (bindSpecial (.ref fI) self) (.ref fI, [self])) (small : ps.length ≤ sizeLine)
    (k : codeAny (model pr w) (A.under (.builtin "type.__call__" ⟨.ref C :: ps, kw⟩)) (.call (.ref fI) ⟨.ref (hp.objs.size + 1) :: ps, kw⟩) (W.InitBack (hp.objs.size + 1) R)
      ⟨(hp.push (W.kdv_tup ps)).push (HandSPX.excO C hp.objs.size), gs, dr, tk, os⟩) :
    codeAny (model pr w) A (.call (.ref C) ⟨ps, kw⟩) R ⟨hp, gs, dr, tk, os⟩ := by
  have z1 := tc_lookup
  have z2 := tc_bind (.ref C)
  have ty : (⟨hp, gs, dr, tk, os⟩ : Shared).TypeIs (.ref C) "type" := ⟨_, oC, rfl⟩
  refine codeAny_of_tree ?_
  show wpAny _ _ (callAny (.ref C) _) _ _ _
  repeat (any_goals (first | assumption | with_reducible refine wpAny_loadPart_at oC ?_ | wp_step))
  refine ⟨rfl, ?_⟩
  refine codeAny_call_builtin_at (Code.quiet_builtin _ (by decide +kernel)) entry_typeCall (typeK_check oC (typeK_run FB same oC li lb small ?_))
  refine codeAny_mono k fun r s2 z => ?_
  rcases r with e | (v | _ | _ | _) <;> exact z
end
end ZE
set_option Elab.async false
set_option linter.all false
set_option autoImplicit false
set_option maxRecDepth 100000
set_option maxHeartbeats 4000000
/-! repr of data; defs told that no repr is under way -/
namespace Z
open PySem PySem.Spec PyProof.Rows L2
section
variable {X : Cx} {pins : List (Addr × Obj)} {σ : L2.St} {H : Hp} {s : Shared}
def Shows (P : Program) (w : World) (h : Heap) (u : Value) (d : PyData) : Prop := ∃ as bs, Reads h u d as ∧ ReadAtMost h d.depth bs ∧ ReprK P w bs h d.depth u d.shown
def ShowsL (P : Program) (w : World) (h : Heap) (us : List Value) (ds : List PyData) : Prop := ∃ as bs, ReadsAll h us ds as ∧ ReadAtMost h (PyData.depthAll ds) bs ∧ ReprAllK P w bs h (PyData.depthAll ds) us (PyData.shownAll ds)
theorem Shows.leaf {P : Program} {w : World} {h : Heap} {u : Value} {d : PyData} (r : Reads h u d []) (i : ReprIs P w u d.shown) : Shows P w h u d := ⟨_, [], r, (fun _ z => nomatch z), .of_is i _ _ _⟩
theorem ShowsL.cons {P : Program} {w : World} {h : Heap} {u : Value} {us : List Value} {d : PyData} {ds : List PyData} (a : Shows P w h u d) (b : ShowsL P w h us ds) : ShowsL P w h (u :: us) (d :: ds) := by
  obtain ⟨a1, b1, r1, m1, k1⟩ := a
  obtain ⟨a2, b2, r2, m2, k2⟩ := b
  have e1 : d.depth ≤ PyData.depthAll (d :: ds) := by simp only [PyData.depthAll]; exact Nat.le_max_left _ _
  have e2 : PyData.depthAll ds ≤ PyData.depthAll (d :: ds) := by simp only [PyData.depthAll]; exact Nat.le_max_right _ _
  refine ⟨_, b1 ++ b2, .cons r1 r2, (m1.mono e1).append (m2.mono e2), ?_⟩
  simp only [PyData.shownAll]
  exact .cons ((k1.more fun c hc => List.mem_append_left _ hc).level_le e1) (k2.more_le (fun c hc => List.mem_append_right _ hc) e2)
mutual
theorem Da.shows (I : Inv X pins σ H s) : ∀ (d : PyData) (v : V) (u : Value), Da X.K H v d → RelV v u → d.showable = true → d.shown.length ≤ sizeLine → Shows X.prog X.w s.heap u d
  | .none, _, _, h, r, _, _ => by
    cases h; cases r
    exact .leaf .none (by simp only [PyData.shown]; exact ReprIs.none)
  | .bool b, _, _, h, r, _, _ => by
    cases h; cases r
    exact .leaf (.bool b) (by simp only [PyData.shown]; exact ReprIs.bool b)
  | .int i, _, _, h, r, g, _ => by
    cases h
    obtain ⟨t, rfl⟩ := r
    exact .leaf (.int i t) (by simp only [PyData.shown]; exact ReprIs.int t (by simpa [PyData.showable] using g))
  | .str x, _, _, h, r, _, z => by
    cases h
    obtain ⟨t, rfl⟩ := r
    exact .leaf (.str x t) (by simp only [PyData.shown]; exact ReprIs.str x t (by simpa only [PyData.shown] using z))
  | .list ds, _, _, h, r, g, z => by
    have z2 : (listText (PyData.shownAll ds)).length ≤ sizeLine := by simpa only [PyData.shown] using z
    cases h with
    | @lst a _ _ hs ha =>
      cases r
      obtain ⟨its, rv, ⟨o, n, ho, hc, _, hd⟩, _⟩ := I.list hs
      obtain ⟨as, bs, hr, hb, hk⟩ := DaL.shows I ds _ its ha rv (by simpa [PyData.showable] using g) fun t ht => Nat.le_trans (listText_mem_le ht) z2
      have R : Reads s.heap (.ref a) (.list ds) _ := .list ho hc hd hr
      have out := not_mem_of_deeper R (by simp only [PyData.depth]; omega) hb
      refine ⟨_, a :: bs, R, ReadAtMost.cons R (by simp only [PyData.depth]; omega) hb, ?_⟩
      simp only [PyData.depth, PyData.shown]
      cases its with
      | nil =>
        cases hr
        simp only [PyData.shownAll, listText_nil]
        exact ReprK.listEmpty ho hc hd
      | cons y l => exact ReprK.list ho hc hd out (by simpa using hk.length_eq) fun i q e => hk.item i q (by simpa using e)
  | .tuple ds, _, _, h, r, g, z => by
    have z2 : (tupleText (PyData.shownAll ds)).length ≤ sizeLine := by simpa only [PyData.shown] using z
    cases h with
    | @tup a _ _ hs ha =>
      cases r
      obtain ⟨its, rv, ⟨o, ho, hc, n, hd⟩, _⟩ := I.tuple hs
      obtain ⟨as, bs, hr, hb, hk⟩ := DaL.shows I ds _ its ha rv (by simpa [PyData.showable] using g) fun t ht => Nat.le_trans (tupleText_mem_le ht) z2
      have R : Reads s.heap (.ref a) (.tuple ds) _ := .tuple ho hc hd hr
      have out := not_mem_of_deeper R (by simp only [PyData.depth]; omega) hb
      refine ⟨_, a :: bs, R, ReadAtMost.cons R (by simp only [PyData.depth]; omega) hb, ?_⟩
      simp only [PyData.depth, PyData.shown]
      exact ReprK.tuple ho hc hd out hk
  | .dict kvs, _, _, h, r, _, _ => by
    cases h with
    | @dic a ha =>
      cases r
      obtain ⟨_, hm, vs, rk, o, es, ep, ho, hx, hd, _, pr, _⟩ := dk_of I.hok ha
      cases rk
      have ee : es.toList = [] := by
        cases q : es.toList with
        | nil => rfl
        | cons y l => rw [q] at pr; cases pr
      have R : Reads s.heap (.ref a) (.dict []) _ := .dict (kvs := []) ho hx.1 hd (by rw [ee]; exact .nil) (by rw [ee]; exact .nil)
      refine ⟨_, [a], R, ReadAtMost.cons (n := 0) R (Nat.zero_le _) (fun _ z => nomatch z), ?_⟩
      simp only [PyData.depth, PyData.depthKv, PyData.shown, PyData.shownKv]
      exact ReprK.dict (d := 0) ho hx.1 hd hm (fun z => nomatch z) (by rw [ee]; exact .nil)
theorem DaL.shows (I : Inv X pins σ H s) : ∀ (ds : List PyData) (vs : List V) (us : List Value), DaL X.K H vs ds → Vals vs us → PyData.showableAll ds = true → (∀ t ∈ PyData.shownAll ds, t.length ≤ sizeLine) → ShowsL X.prog X.w s.heap us ds
  | [], _, _, h, r, _, _ => by
    cases h; cases r
    exact ⟨_, [], .nil, (fun _ z => nomatch z), by simp only [PyData.shownAll]; exact .nil⟩
  | d :: ds, _, _, h, r, g, z => by
    cases h with
    | cons h1 h2 =>
      cases r with
      | cons r1 r2 =>
        have g2 : d.showable = true ∧ PyData.showableAll ds = true := by simpa [PyData.showableAll] using g
        exact .cons (Da.shows I d _ _ h1 r1 g2.1 (z _ (by simp only [PyData.shownAll]; exact List.mem_cons_self ..))) (DaL.shows I ds _ _ h2 r2 g2.2 fun t ht => z t (by simp only [PyData.shownAll]; exact List.mem_cons_of_mem _ ht))
end
theorem Da.by_ (I : Inv X pins σ H s) {a : Addr} {d : PyData} (h : Da X.K H (.ref a) d) (g : d.showable = true) (z : d.shown.length ≤ sizeLine) : ∃ T idr, ShowsBy X.prog X.w s.heap a d T idr := by
  cases h with
  | @lst _ _ ds hs ha =>
    have z2 : (listText (PyData.shownAll ds)).length ≤ sizeLine := by simpa only [PyData.shown] using z
    obtain ⟨its, rv, ⟨o, n, ho, hc, _, hd⟩, _⟩ := I.list hs
    obtain ⟨as, bs, hr, hb, hk⟩ := DaL.shows I ds _ its ha rv (by simpa [PyData.showable] using g) fun t ht => Nat.le_trans (listText_mem_le ht) z2
    have out := not_mem_of_deeper (.list ho hc hd hr) (by simp only [PyData.depth]; omega) hb
    refine ⟨"list", "list.__repr__", F.slot_list_repr.toG, F.slot_list_str, F.slot_list_format, fun t kt => ⟨o, kt _ _ ho, hc⟩, fun A E t Q g1 u1 k1 q => ?_⟩
    simp only [PyData.depth] at u1
    simp only [PyData.shown] at q
    cases its with
    | nil =>
      cases hr
      simp only [PyData.shownAll, listText_nil] at q
      exact call_list_repr_empty ⟨o, k1 _ _ ho, hc⟩ (k1 _ _ ho) hd (q t.heap _ _ fun _ _ e => e)
    | cons y l => exact call_list_reprK ho hc hd out (by simpa using hk.length_eq) (fun i q e => hk.item i q (by simpa using e)) g1 (fun b _ => Clear.nil b) u1 k1 q z2
  | @tup _ _ ds hs ha =>
    have z2 : (tupleText (PyData.shownAll ds)).length ≤ sizeLine := by simpa only [PyData.shown] using z
    obtain ⟨its, rv, ⟨o, ho, hc, n, hd⟩, _⟩ := I.tuple hs
    obtain ⟨as, bs, hr, hb, hk⟩ := DaL.shows I ds _ its ha rv (by simpa [PyData.showable] using g) fun t ht => Nat.le_trans (tupleText_mem_le ht) z2
    have out := not_mem_of_deeper (.tuple ho hc hd hr) (by simp only [PyData.depth]; omega) hb
    refine ⟨"tuple", "tuple.__repr__", F.slot_tuple_repr, F.slot_tuple_str, F.slot_tuple_format, fun t kt => ⟨o, kt _ _ ho, hc⟩, fun A E t Q g1 u1 k1 q => ?_⟩
    simp only [PyData.depth] at u1
    simp only [PyData.shown] at q
    exact call_tuple_reprK ho hc hd out hk g1 (fun b _ => Clear.nil b) u1 k1 q z2
  | dic ha =>
    obtain ⟨_, hm, vs, rk, o, es, ep, ho, hx, hd, _, pr, _⟩ := dk_of I.hok ha
    cases rk
    have ee : es.toList = [] := by
      cases q : es.toList with
      | nil => rfl
      | cons y l => rw [q] at pr; cases pr
    refine ⟨"dict", "dict.__repr__", F.slot_dict_repr, F.slot_dict_str, F.slot_dict_format, fun t kt => ⟨o, kt _ _ ho, hx.1⟩, fun A E t Q g1 u1 k1 q => ?_⟩
    simp only [PyData.depth, PyData.depthKv] at u1
    simp only [PyData.shown, PyData.shownKv] at q
    exact call_dict_reprK (as := []) (d := 0) (ps := []) ho hx.1 hd hm (fun z => nomatch z) (by rw [ee]; exact .nil) g1 (fun b _ => Clear.nil b) u1 k1 q
end
/-- repr(data) -/
def rRepr (K : PySem.W.Frag) : List V → Hp → VK → Prop := fun xs H Q => ∃ v d, xs = [v] ∧ Da K H v d ∧ d.showable = true ∧ d.shown.length ≤ sizeLine ∧ d.depth ≤ 64 ∧ Q (.str d.shown) H
theorem call_reprD {X : Cx} (g0 : X.A.guards = some []) (u0 : X.A.units + 80 < cLine) : CallR X (.builtin "repr") (rRepr X.K) := by
  intro pins s σ H xs us Q I r h
  obtain ⟨v, d, rfl, hd, g, z, dp, q⟩ := h
  cases r with
  | @cons _ u _ _ rv rr =>
    cases rr
    cases v with
    | ref a =>
      cases rv
      obtain ⟨T, idr, S⟩ := hd.by_ I g z
      exact call_repr_slot (by omega) (S.typeIs s fun _ _ e => e) S.slotRepr (S.call X.A.in1 _ s _ g0 (by show X.A.units + 1 + d.depth < cLine; omega) (fun _ _ e => e) fun h' u tk hk => ⟨_, _, rfl, ⟨.str _, H, I.kept hk, ⟨_, rfl⟩, q⟩⟩)
    | non =>
      cases hd; cases rv
      exact P.repr_of_none ⟨.str _, H, I.tok _, ⟨_, rfl⟩, by simpa only [PyData.shown] using q⟩
    | bl b =>
      cases hd; cases rv
      exact P.repr_of_bool ⟨.str _, H, I.tok _, ⟨_, rfl⟩, by simpa only [PyData.shown] using q⟩
    | int i =>
      cases hd
      obtain ⟨t, rfl⟩ := rv
      exact P.repr_of_int (by simpa [PyData.showable] using g) ⟨.str _, H, I.tok _, ⟨_, rfl⟩, by simpa only [PyData.shown] using q⟩
    | str x =>
      cases hd
      obtain ⟨t, rfl⟩ := rv
      exact P.repr_of_str ⟨.str _, H, I.tok _, ⟨_, rfl⟩, by simpa only [PyData.shown] using q⟩ (by simpa only [PyData.shown] using z)
    | _ => cases hd
end Z
set_option Elab.async false
set_option linter.all false
set_option autoImplicit false
set_option maxRecDepth 100000
set_option maxHeartbeats 4000000
/-! defs told that no repr is under way (Still A) -/
namespace Z
open PySem PySem.Spec PyProof.Rows L2
abbrev Still (A : Around) : Prop := A.guards = some []
structure FnG (P : Program) (w : World) (K : PySem.W.Frag) (mg : Str → Option Value) (base : Heap) (CX : CXT) (k : Nat) (f : Addr) (fd : FuncData) (ps : List Str) (sp : Sp) : Prop where
  len : ∀ vs H Q E, sp vs H Q E → vs.length = ps.length
  run : ∀ (A : Around) (out : List Env) (s : Shared) (H : Hp) (ar : Args) (us : List Value) (vs : List V) (Q : VK) (E : XK), Room k A → Still A → Env0 P w K mg base A out s H → BindsTo s fd ar (ps.zip us) → Vals vs us → sp vs H Q E →
    codeAny (model P w) A (.call (.ref f) ar) (CR CX out P w H s Q E) s
section
variable {P : Program} {w : World} {K : PySem.W.Frag} {mg : Str → Option Value} {base : Heap} {CX : CXT} {k : Nat} {f : Addr} {fd : FuncData} {ps : List Str} {sp : Sp}
theorem FnG.of (F : FnOk P w K mg base CX k f fd ps sp) : FnG P w K mg base CX k f fd ps sp := ⟨F.len, fun A out s H ar us vs Q E hr _ e b r q => F.run A out s H ar us vs Q E hr e b r q⟩
theorem FnG.mono {j : Nat} (F : FnG P w K mg base CX j f fd ps sp) (h : j ≤ k) : FnG P w K mg base CX k f fd ps sp := ⟨F.len, fun A out s H ar us vs Q E hr => F.run A out s H ar us vs Q E (hr.mono h)⟩
theorem fnG_of {N : List Str} {name qual : Str} {params : Arguments} {body : List Stmt} {scope : Scope} {dV kV doc pm cdv ct oc : Value} {an od : Option Addr} {osl : Array (Option Value)}
    (l0 : K.lookup f = some ⟨oc, od, .func (PySem.W.fnOf name qual params body scope dV kV doc pm an cdv ct), osl⟩) (c0 : PySem.W.codeIn K cdv qual = true) (S0 : FnScope N ps scope) (n0 : ∀ vs H Q E, sp vs H Q E → vs.length = ps.length)
    (b0 : ∀ (A : Around) (out : List Env) (s : Shared) (H : Hp) (vs : List V) (Q : VK) (E : XK), Room k (A.deeper (envOfC qual scope s.heap.objs.size f cdv)) → Still A → sp vs H Q E →
      ∃ t, PSs (cxOf CX P w K mg base N qual scope f cdv A out s H E) body t ∧ t { nx := fun _ H' => Q .non H', rt := Q } (start N vs) H) :
    FnG P w K mg base CX (k + 1) f (PySem.W.fnOf name qual params body scope dV kV doc pm an cdv ct) ps sp := by
  refine ⟨n0, fun A out s H ar us vs Q E hr st ee bb rr qq => ?_⟩
  have len0 := n0 _ _ _ _ qq
  have K0 : K.In s.heap := ee.mod.kin.keeps fun c o z => (ee.bs c o z).1
  have lim0 : s.heap.NoLimit := ee.mod.nolimit.keeps fun c o z => (ee.bs c o z).1
  have kinds : ∀ y ∈ ps.zip us, scope.names.lookup y.1 = some .local ∨ (scope.names.lookup y.1 = some .cell ∧ ((cellsFrom (s.heap.objs.size + 1) scope.names []).lookup y.1).isSome = true) := by
    rintro ⟨n, v⟩ hy
    exact (S0.par n (List.of_mem_zip hy).1).imp id fun z => ⟨z, PySem.W.cellsFrom_some _ _ _ (.inl z)⟩
  refine codeAny_call_function hr.depth (K0 _ _ l0) rfl S0.co S0.gen rfl (PySem.W.codeRec_of K0 c0) (bb _ _ _ _ ?_)
  refine wpAny_newFunctionEnv_cells S0.kind kinds fun env e1 s1 x1 => ?_
  subst e1
  refine ⟨lim0.keeps x1.toInCall.keep, codeAny_func ?_⟩
  obtain ⟨t, ht, hq⟩ := b0 A out s H vs Q E (hr.deeper _) st qq
  have I0 : Inv (cxOf CX P w K mg base N qual scope f cdv A out s H E) [] (start N vs) H s1 := inv_start S0 hr.hd ee len0 rr x1
  refine wpAny_mono (ht.run [] s1 (start N vs) H _ I0 hq) (fun fl s2 h2 => ?_) fun e s2 h2 => h2
  have done_ : ∀ {σ2 : L2.St} {H2 : Hp} {v : V} {u : Value}, Inv (cxOf CX P w K mg base N qual scope f cdv A out s H E) [] σ2 H2 s2 → RelV v u → Q v H2 → CE out P w H s Q u s2 :=
    fun {σ2 H2 v u} J r2 q2 => ⟨v, H2, J.os, J.bare, J.base, J.hok, r2, q2⟩
  cases fl with
  | ret u =>
    obtain ⟨v, σ2, H2, J, r2, q2⟩ := h2
    exact done_ J r2 q2
  | next =>
    obtain ⟨σ2, H2, J, q2⟩ := h2
    exact done_ (v := V.non) (u := Value.none) J rfl q2
  | brk => exact h2.elim fun _ z => z.elim fun _ z => False.elim z.2
  | cont => exact h2.elim fun _ z => z.elim fun _ z => False.elim z.2
end
section
variable {P : Program} {w : World} {K : PySem.W.Frag} {mg : Str → Option Value} {base : Heap} {x qual : Str} {params : Arguments} {body : List Stmt} {scope : Scope} {dvs : List V} {kws : List (Str × V)} {f : Addr} {fd : FuncData}
theorem okG {CX : CXT} {N ps : List Str} {k : Nat} {sp : Sp} (F : FunD K x qual params body scope dvs kws f fd) (S : FnScope N ps scope) (len : ∀ vs H Q E, sp vs H Q E → vs.length = ps.length)
    (b0 : ∀ (cdv : Value) (A : Around) (out : List Env) (s : Shared) (H : Hp) (vs : List V) (Q : VK) (E : XK), Room k (A.deeper (envOfC qual scope s.heap.objs.size f cdv)) → Still A → sp vs H Q E →
      ∃ t, PSs (cxOf CX P w K mg base N qual scope f cdv A out s H E) body t ∧ t { nx := fun _ H' => Q .non H', rt := Q } (start N vs) H) : FnG P w K mg base CX (k + 1) f fd ps sp := by
  obtain ⟨oc, od, dV, kV, doc, pm, an, cdv, ct, osl, rfl, l0, c0, _, _⟩ := F.ex
  exact fnG_of l0 c0 S len fun A out s H vs Q E hr st hs => b0 cdv A out s H vs Q E hr st hs
end
structure KnG (P : Program) (w : World) (K : PySem.W.Frag) (mg : Str → Option Value) (base : Heap) (CX : CXT) (x : Str) (k : Nat) (ps : List Str) (dvs : List V) (sp : Sp) : Prop where
  ex : ∃ f fd ds, FnG P w K mg base CX k f fd ps sp ∧ mg x = some (.ref f) ∧ PySem.W.keepIn K (.ref f) = true ∧ Binds K fd ps ds ∧ Vals dvs ds
theorem Kn.g {P : Program} {w : World} {K : PySem.W.Frag} {mg : Str → Option Value} {base : Heap} {CX : CXT} {x : Str} {k : Nat} {ps : List Str} {dvs : List V} {sp : Sp} (F : Kn P w K mg base CX x k ps dvs sp) : KnG P w K mg base CX x k ps dvs sp := by
  obtain ⟨f, fd, ds, a, b, c, d, e⟩ := F.ex
  exact ⟨f, fd, ds, .of a, b, c, d, e⟩
section
variable {X : Cx} {CX : CXT} {x : Str} {k j : Nat} {f : Addr} {fd : FuncData} {ps : List Str} {dvs : List V} {ds : List Value} {sp : Sp} {e : Expr} {es : List Expr} {t : TA} {p pos : Pos} {E : XK}
theorem run_fnG {pins : List (Addr × Obj)} {σ : L2.St} {H : Hp} {s : Shared} {Q : VK} {us : List Value} {vs : List V} (F : FnG X.prog X.w X.K X.mg X.base CX k f fd ps sp) (hr : Room k X.A) (st : Still X.A) (hb : Binds X.K fd ps ds) (hd : Vals dvs ds) (hx : Passes CX X E)
    (I : Inv X pins σ H s) (r : Vals vs us) (h : sp (vs ++ dvs) H Q E) : wpAny (model X.prog X.w) X.A (call (.ref f) us) (EP X pins σ Q) X.xe s := by
  have rr : Vals (vs ++ dvs) (us ++ ds) := r.append hd
  have ll : (us ++ ds).length = ps.length := by rw [← rr.length]; exact F.len _ _ _ _ h
  refine wpAny_call (codeAny_mono (F.run X.A X.stack s H ⟨us, []⟩ (us ++ ds) (vs ++ dvs) Q E hr st I.env0 (hb s us I.kIn ll) rr h) fun r s2 q2 => ?_)
  match r, q2 with
  | .error e, q2 => exact hx pins σ H s e s2 I q2
  | .ok (.ret u), q2 => exact I.after q2
  | .ok .next, q2 => exact False.elim q2
  | .ok .brk, q2 => exact False.elim q2
  | .ok .cont, q2 => exact False.elim q2
theorem pe_ownG (F : KnG X.prog X.w X.K X.mg X.base CX x k ps dvs sp) (hr : Room j X.A) (st : Still X.A) (hkj : k ≤ j) (hx : Passes CX X E) (ha : PA X (e :: es) t) (hg : Gl X x := by rfl) (hdb : (x == ("__debug__" : Str)) = false := by decide)
    (he : starEach (e :: es) X.env = (false, eval e X.env) :: starEach es X.env := by rfl) (hpl : (backTo pos (starEach es X.env)).any (·.1) = false := by rfl) :
    PE X (.Call (.Name x p) (e :: es) [] pos) (tCall sp dvs E t) := by
  obtain ⟨f, fd, ds, F1, m, kp, b, vd⟩ := F.ex
  refine ⟨fun pins s σ H Q I h => wpAny_Call_Name_kw (ld_glob I hg m ?_ hdb)⟩
  exact PySem.W.callWith_K (h₀ := X.base) I.ok.mod.kin kp (thn (ha.run pos pins s σ H _ I h) fun us s1 ⟨vs, H1, I1, r1, q1⟩ => ⟨I1.kIn, run_fnG F1 (hr.mono hkj) st b vd hx I1 r1 q1⟩) he hpl
end
end Z
set_option Elab.async false
set_option linter.all false
set_option autoImplicit false
set_option maxRecDepth 100000
set_option maxHeartbeats 4000000
/-! the law's own call, its promise told that no repr is under way -/
namespace Z
open PySem PySem.Spec PyProof.Rows L2
section
variable {P : Program} {w : World} {K : PySem.W.Frag} {mg mb : Str → Option Value} {CX : CXT} {k : Nat} {fa a : Addr} {fd : FuncData} {x : Str} {sp : Sp} {s : Shared} {us : List Value} {ns : List Int}
theorem law_at {H : Hp} (KX : K.In s.heap) (n1 : s.heap.Ns mainGlobals mg) (n2 : s.heap.Ns builtinsNs mb) (n3 : ∀ x : Str, x ≠ "__name__" → mb x = bootBuiltins x) (lim : s.heap.NoLimit) (gs : s.gens = #[])
    (oa : s.heap.get? a = some { cls := .type "list", data := .seq us.toArray }) (hr : Room k callerA)
    (F : ∀ base : Heap, K.In base → base.Ns mainGlobals mg → FnG P w K mg base CX k fa fd [x] sp) (bd : ∀ (t : Shared) (u : Value), BindsTo t fd ⟨[u], []⟩ [(x, u)])
    (q0 : sp [.ref a] H (fun v _ => v = .bl true) fun _ _ _ => False) (nx : ∀ e s2, CX [] H s (fun _ _ _ => False) e s2 → False)
    (ol : Only H) (ok : HOk P w H s.heap) (on : ∀ b, H b ≠ none → b = a) (nk : H a ≠ none → K.lookup a = none) :
    codeAny (model P w) callerA (.call (.ref fa) ⟨[.ref a], []⟩) (fun r s2 => r = .ok (.ret (.bool true)) ∧ OldK s.heap s2.heap ∧ s2.os = s.os ∧ AllBare s2.gens) s := by
  have free_of : ∀ {b : Addr} {o : Obj}, s.heap.get? b = some o → (∀ its n, o.data ≠ .seq its n) → H b = none := by
    intro b o e ne
    refine Classical.byContradiction fun z => ?_
    have ea := on b z
    subst ea
    rw [oa] at e
    cases e
    exact ne _ _ rfl
  have ns_of : ∀ {b : Addr} {m : Str → Option Value}, s.heap.Ns b m → (hidT s.heap H).Ns b m := by
    rintro b m ⟨o, es, ep, e, d, r⟩
    exact ⟨o, es, ep, hidT_get e (free_of e fun its n z => by rw [d] at z; cases z), d, r⟩
  have kin : K.In (hidT s.heap H) := by
    intro b o e
    refine hidT_get (KX b o e) (Classical.byContradiction fun z => ?_)
    have ea := on b z
    subst ea
    rw [nk z] at e
    cases e
  obtain ⟨mc, c1, c2⟩ := lim
  have md : Mod K mg (hidT s.heap H) := ⟨kin, ns_of n1, ⟨mb, ns_of n2, n3⟩, mc, ns_of c1, c2⟩
  have ev : Env0 P w K mg (hidT s.heap H) callerA [] s H := { frames := rfl, mod := md, bs := fun b o e => of_hidT e, bsz := Nat.le_of_eq (hidT_size _ _), funs := trivial, frf := (fun b z => absurd (show b ∈ ([] : List Addr) from z) (by simp)), hok := ok, bare := .of_eq gs }
  refine codeAny_mono ((F _ kin (ns_of n1)).run callerA [] s H ⟨[.ref a], []⟩ [.ref a] [.ref a] _ _ hr rfl ev (bd s (.ref a)) (.cons rfl .nil) q0) fun r s2 z => ?_
  match r, z with
  | .error e, z => exact (nx e s2 z).elim
  | .ok .next, z => exact False.elim z
  | .ok .brk, z => exact False.elim z
  | .ok .cont, z => exact False.elim z
  | .ok (.ret u), z =>
    obtain ⟨v, H2, os2, br2, un2, ok2, rv, (rfl : v = .bl true)⟩ := z
    obtain rfl : u = Value.bool true := rv
    refine ⟨rfl, OldK.of_keep fun b o e => ?_, os2, br2⟩
    rcases ol b with z | ⟨ob, xs, z⟩
    · exact un2.keep b o e z (fun y => absurd (show b ∈ ([] : List Addr) from y) (by simp)) (by simp)
    · obtain ⟨e1, _⟩ := ok b _ z
      obtain ⟨e2, _⟩ := ok2 b _ (un2.frzs b ob _ z)
      rw [e] at e1
      cases e1
      exact e2
theorem law_callG (KX : K.In s.heap) (n1 : s.heap.Ns mainGlobals mg) (n2 : s.heap.Ns builtinsNs mb) (n3 : ∀ x : Str, x ≠ "__name__" → mb x = bootBuiltins x) (lim : s.heap.NoLimit) (gs : s.gens = #[])
    (oa : s.heap.get? a = some { cls := .type "list", data := .seq us.toArray }) (ia : IntsAre us ns) (sz : ns.length ≤ sizeLine) (hr : Room k callerA)
    (F : ∀ base : Heap, K.In base → base.Ns mainGlobals mg → FnG P w K mg base CX k fa fd [x] sp) (bd : ∀ (t : Shared) (u : Value), BindsTo t fd ⟨[u], []⟩ [(x, u)])
    (q0 : ∀ H : Hp, Only H → SqL K H a (ns.map V.int) → sp [.ref a] H (fun v _ => v = .bl true) fun _ _ _ => False) (nx : ∀ H e s2, CX [] H s (fun _ _ _ => False) e s2 → False) :
    codeAny (model P w) callerA (.call (.ref fa) ⟨[.ref a], []⟩) (fun r s2 => r = .ok (.ret (.bool true)) ∧ OldK s.heap s2.heap ∧ s2.os = s.os ∧ AllBare s2.gens) s := by
  have rv := vals_ints ia
  have ll := ia.length
  cases e : K.lookup a with
  | some o =>
    have e2 := KX a o e
    rw [oa] at e2
    cases e2
    have S : SqL K (fun _ => none) a (ns.map V.int) := .inr ⟨_, us.toArray, _, e, rfl, rfl, rfl, by rw [List.size_toArray, ll]; exact sz, by simpa using rv⟩
    exact law_at KX n1 n2 n3 lim gs oa hr F bd (q0 _ (fun _ => .inl rfl) S) (nx _) (fun _ => .inl rfl) (fun b u z => nomatch z) (fun b z => absurd rfl z) fun z => absurd rfl z
  | none =>
    let o0 : Obj := { cls := .type "list", data := .seq us.toArray }
    let H : Hp := fun b => if b = a then some (.frz o0 (.lst (ns.map V.int))) else none
    have at_ : H a = some (.frz o0 (.lst (ns.map V.int))) := if_pos rfl
    have off : ∀ b, b ≠ a → H b = none := fun b z => if_neg z
    have ol : Only H := fun b => if z : b = a then .inr ⟨o0, ns.map V.int, by rw [z]; exact at_⟩ else .inl (off b z)
    refine law_at (H := H) KX n1 n2 n3 lim gs oa hr F bd (q0 _ ol (.inl (.inr ⟨o0, at_⟩))) (nx _) ol (fun b u z => ?_) (fun b z => Classical.byContradiction fun y => z (off b y)) fun _ => e
    have eb : b = a := Classical.byContradiction fun y => by rw [off b y] at z; cases z
    subst eb
    rw [at_] at z
    cases z
    exact ⟨oa, by rw [List.length_map]; exact sz, us, _, rv, oa⟩
end
theorem walk_G {l : PySem.W.OpenLaw} {n k : Nat} {q : Program} {loose : List Str} {XP : (Str → Option Value) → Heap → Prop} {YP : World → Heap → Prop} {d : DefRec} {CX : CXT} {x : Str}
    (m1 : l.most = some n) (m2 : n ≤ sizeLine) (nd : d.params.defaults = []) (hr : Room k callerA)
    (F : ∀ (w : World) (mg : Str → Option Value) (fa : Addr) (h : Heap), YP w h → h.Ns mainGlobals mg → mg d.name = some (.ref fa) →
      ∃ (K : PySem.W.Frag) (fd : FuncData) (sp : Sp), K.In h ∧ (∀ (s : Shared) (u : Value), BindsTo s fd ⟨[u], []⟩ [(x, u)]) ∧
        (∀ (H : Hp) (a : Addr) (ns : List Int), ns.length ≤ n → Only H → SqL K H a (ns.map V.int) → sp [.ref a] H (fun v _ => v = .bl true) fun _ _ _ => False) ∧
        ∀ base : Heap, K.In base → base.Ns mainGlobals mg → FnG l.prog w K mg base CX k fa fd [x] sp)
    (nx : ∀ (H : Hp) (s : Shared) (e : Value) (s2 : Shared), CX [] H s (fun _ _ _ => False) e s2 → False) :
    PySem.W.WalkO q loose XP YP l.row.toRowW d [] (fun f vs => PySem.call f vs) := by
  refine Att.attach_call m1 nd fun w s0 s1 mg mb fa o pm cd doc a us ns G Y _ _ _ hmg oa ia sz gs => ?_
  obtain ⟨K, fd, sp, KX, bd, q0, F1⟩ := F w mg fa _ Y G.T.g hmg
  exact law_callG KX G.T.g G.T.b G.T.builtins G.T.nolimit gs oa ia (Nat.le_trans sz m2) hr F1 bd (fun H ol S => q0 H a ns sz ol S) fun H e s2 => nx H s1 e s2
end Z
set_option Elab.async false
set_option linter.all false
set_option maxRecDepth 100000
set_option maxHeartbeats 4000000
/-! more of the hand layer: filters, written dicts' get, calls by keywords alone, displays that are data -/
namespace Z
open PySem PySem.Spec PyProof.Rows L2
section
variable {X : Cx} {K : PySem.W.Frag}
theorem k_slA (h : X.K = K := by rfl) : SlR X (rSlA K) := by subst h; exact sl_tupA
theorem k_catA (h : X.K = K := by rfl) : OpR X (binaryOp .Add) (rCatA K) := by subst h; exact op_catA
theorem k_ixKD {w : World} (h : X.K = K := by rfl) (hw : X.w = w := by rfl) : IxR X (rIxD K w) := by subst h hw; exact ix_kdict
def rSumQ (K : PySem.W.Frag) : List V → Hp → VK → Prop := fun vs H Q => ∃ (a : Addr) (ns : List Int), vs = [V.ref a] ∧ SqL K H a (ns.map V.int) ∧ Q (.int ns.sum) H
theorem k_sum (hc : X.calm = true) (h : X.K = K := by rfl) : CallR X (.builtin "sum") (rSumQ K) := by subst h; exact cr_sum hc
end
/-! d.get(k), d a written dict with text keys -/
def KGot (K : PySem.W.Frag) (w : World) (a : Addr) (z : Str) (r : Option V) : Prop := ∃ es n, KDict K w a es n ∧ match r with
  | some v => ∃ u, PySem.W.nsIn K a z = some (some u) ∧ RelV v u
  | none => PySem.W.nsIn K a z = some none
def tKGet (K : PySem.W.Frag) (w : World) (td ty : TE) : TE := fun σ H Q => td σ H fun x H1 => ∃ a, x = .ref a ∧ (∃ es n, KDict K w a es n) ∧ ty σ H1 fun y H2 => ∃ z r, y = .str z ∧ KGot K w a z r ∧ Q (r.getD .non) H2
theorem pe_kget {X : Cx} {K : PySem.W.Frag} {w : World} {o e : Expr} {td ty : TE} {apos cpos : Pos} (ho : PE X o td) (he : PE X e ty) (hK : X.K = K := by rfl) (hw : X.w = w := by rfl) (m : M1 X o "get" apos e cpos := by exact ⟨rfl, rfl, rfl, rfl⟩) :
    PE X (.Call (.Attribute o "get" apos) [e] [] cpos) (tKGet K w td ty) := by
  subst hK hw
  refine ⟨fun pins s σ H Q I h => ?_⟩
  refine wpAny_Call_method m.base m.few m.line PySem.F.plainAttrs_dict PySem.F.slot_dict_get PySem.F.type_dict_get (thn (ho.run pins s σ H _ I h) fun u s1 ⟨x, H1, I1, rx, a, ex, ⟨es, n, D⟩, q1⟩ => ?_)
  subst ex
  obtain rfl : u = Value.ref a := rx
  have hm := PySem.W.mapOf_K (prog := X.prog) (w := X.w) I1.kIn D.at_ D.lit
  refine ⟨hm.typeIs, (fun b q => by cases q; exact ⟨_, I1.kIn _ _ D.at_, rfl⟩), ?_⟩
  rw [m.trees]
  refine Calls.callWith_builtin rfl (Calls.evalArgs_plain (Calls.spliced_cons (thn (he.run pins s1 σ H1 _ I1 q1) fun iv s2 ⟨y, H2, I2, ry, z, r, ey, ⟨es', n', D', g⟩, q2⟩ => Calls.spliced_nil ?_)))
  subst ey
  obtain ⟨t, rfl⟩ := ry
  have hm2 := PySem.W.mapOf_K (prog := X.prog) (w := X.w) I2.kIn D'.at_ D'.lit
  refine call_meetsIn PySem.F.slot_dict_get hm2.typeIs PySem.F.entry_dict_get (PySem.F.args_dict_get_2 _ _) (meets_dict_get (strKind X.prog X.w) a (PySem.strKind_is X.prog X.w z t) D'.low) ⟨_, hm2, ?_⟩
  cases r with
  | some v =>
    obtain ⟨u, e1, r1⟩ := g
    rw [PySem.W.find_K D'.at_ e1]
    exact ⟨_, H2, I2.tok _, r1, q2⟩
  | none =>
    rw [PySem.W.find_K D'.at_ g]
    exact ⟨.non, H2, I2.tok _, rfl, q2⟩
/-! f(k = v, ..): keywords alone -/
structure KnK (P : Program) (w : World) (K : PySem.W.Frag) (mg : Str → Option Value) (base : Heap) (CX : CXT) (x : Str) (k : Nat) (ps ks : List Str) (gV : List V → List V → List V) (sp : Sp) : Prop where
  ex : ∃ f fd g, FnOk P w K mg base CX k f fd ps sp ∧ mg x = some (.ref f) ∧ PySem.W.keepIn K (.ref f) = true ∧ KBinds K fd ps ks g gV
theorem pe_ownK0 {X : Cx} {CX : CXT} {x : Str} {k j : Nat} {ps ks : List Str} {gV : List V → List V → List V} {sp : Sp} {kws : List Keyword} {tk : TA} {p pos : Pos} {E : XK} (F : KnK X.prog X.w X.K X.mg X.base CX x k ps ks gV sp) (hr : Room j X.A) (hkj : k ≤ j) (hx : Passes CX X E) (hkw : PK X kws tk)
    (hg : Gl X x := by rfl) (hdb : (x == ("__debug__" : Str)) = false := by decide) (hall : (backToKw pos (keywordEach kws X.env)).all (·.1.isSome) = true := by rfl) (hks : (backToKw pos (keywordEach kws X.env)).filterMap (·.1) = ks := by rfl)
    (hpl : ((backTo pos (starEach [] X.env)).any (·.1) || (backToKw pos (keywordEach kws X.env)).any (·.1.isNone)) = false := by rfl) :
    PE X (.Call (.Name x p) [] kws pos) (tCallK sp gV E tNil tk) := by
  obtain ⟨f, fd, g, F1, m, kp, b⟩ := F.ex
  refine ⟨fun pins s σ H Q I h => ?_⟩
  refine wpAny_Call_Name_kw (ld_glob I hg m ?_ hdb)
  refine PySem.W.callWith_KW0 (h₀ := X.base) I.ok.mod.kin kp hall (thn (hkw.run pos pins s σ H _ I h) fun ws s2 ⟨zs, H2, I2, rz, q2⟩ => ⟨I2.kIn, ?_⟩) hpl
  rw [hks]
  exact run_fnk F1 (hr.mono hkj) b hx I2 .nil rz q2
/-! a comprehension with a test: of the turns in which it holds -/
theorem lc_okF {J : It} {n : Nat} {G : Hp → Prop} {Y : Nat → Hp → V → Hp → Prop} (w : Walk J n G Y) {g : TG} {tt : TT} {te : TE} {vs : List Nat} {σ : L2.St} {H1 : Hp} {D : Addr} {Qd : Hp → Prop}
    (kp : Nat → Bool) (R : Nat → V → Hp → Prop) (hD : H1 D = none) (hn : n < sizeLine) (hG : ∀ H, Same H1 H → G H) (hR : ∀ i y H H', i < n → SameT H H' → R i y H → R i y H')
    (hY : ∀ i H x H', Y i H x H' → Same H H')
    (hs : ∀ i x H H', i < n → Same H1 H → Y i H x H' → ∀ (Q : VK) (N : Hp → Prop), (kp i = true → ∀ y H4, Same H' H4 → R i y H4 → Q y H4) → (kp i = false → ∀ H4, Same H' H4 → N H4) →
      g x (wipe σ vs) H' fun σ2 H2 => wipe σ2 vs = wipe σ vs ∧ tt σ2 H2 fun b H3 => if b = true then te σ2 H3 Q else N H3)
    (hd : ∀ H acc, Same H1 H → H D = some (.lst acc) → acc.length = ((List.range n).filter kp).length → (∀ (j : Nat) y, acc[j]? = some y → ∃ i, ((List.range n).filter kp)[j]? = some i ∧ R i y H) → Qd H) :
    ∃ W : Nat → Nat → Hp → Prop, (∃ m, W 0 m (upd H1 D (.lst []))) ∧ ∀ i m H, W i m H → (J.stop i H ∧ Qd H) ∨ (J.go i H ∧ ∃ Nx : Hp → Prop, (∀ H', Nx H' → ∃ m', m' < m ∧ W (i + 1) m' H') ∧ ∀ x H', J.yld i H x H' → g x (wipe σ vs) H' fun σ2 H2 => wipe σ2 vs = wipe σ vs ∧ tt σ2 H2 fun b H3 =>
      if b = true then te σ2 H3 fun y H4 => ∃ acc, H4 D = some (.lst acc) ∧ acc.length < sizeLine ∧ Nx (upd H4 D (.lst (acc ++ [y]))) else Nx H3) := by
  have hrange : ∀ i, (List.range (i + 1)).filter kp = (List.range i).filter kp ++ (if kp i then [i] else []) := fun i => by
    rw [List.range_succ, List.filter_append]
    by_cases h : kp i <;> simp [h]
  have hlen : ∀ i, ((List.range i).filter kp).length ≤ i := fun i => by
    have := List.length_filter_le kp (List.range i); simpa using this
  refine lc_it w (fun i H => i ≤ n ∧ Same H1 H ∧ ∃ acc, H D = some (.lst acc) ∧ acc.length = ((List.range i).filter kp).length ∧ ∀ (j : Nat) y, acc[j]? = some y → ∃ i', ((List.range i).filter kp)[j]? = some i' ∧ R i' y H) ⟨Nat.zero_le _, same_new hD, [], upd_same, rfl, fun j y q => by simp at q⟩ (fun i H _ q => hG H q.2.1) ?_ ?_
  · rintro i x H H' hi ⟨_, s1, acc, hacc, hl, ha⟩ y1
    have sY := hY i H x H' y1
    have hin : ∀ (j i' : Nat), ((List.range i).filter kp)[j]? = some i' → i' < n := fun j i' q => by
      have := List.mem_of_getElem? q
      have := List.mem_range.mp (List.mem_filter.mp this).1
      omega
    refine hs i x H H' hi s1 y1 (fun y H4 => ∃ acc, H4 D = some (.lst acc) ∧ acc.length < sizeLine ∧ _) _ (fun kt y H4 s4 r4 => ?_) (fun kf H4 s4 => ?_)
    · have h4 : H4 D = some (.lst acc) := s4 _ _ (sY _ _ hacc)
      have sT : SameT H4 (upd H4 D (.lst (acc ++ [y]))) := sameT_list h4
      refine ⟨acc, h4, by have := hlen i; omega, hi, same_app ((s1.trans sY).trans s4) hD, acc ++ [y], upd_same, by rw [hrange, kt]; simp [hl], fun j y' q => ?_⟩
      rw [hrange, kt]
      by_cases hj : j < acc.length
      · rw [List.getElem?_append_left hj] at q
        obtain ⟨i', e1, r1⟩ := ha j y' q
        refine ⟨i', ?_, hR i' y' _ _ (hin j i' e1) (((Same.t sY).trans (Same.t s4)).trans sT) r1⟩
        rw [List.getElem?_append_left (by rw [← hl]; exact hj)]; exact e1
      · have hj2 : j = acc.length := by
          have := (List.getElem?_eq_some_iff.mp q).1
          simp at this; omega
        subst hj2
        rw [List.getElem?_append_right (Nat.le_refl _)] at q
        simp at q
        subst q
        refine ⟨i, ?_, hR i y _ _ hi sT r4⟩
        rw [List.getElem?_append_right (by rw [hl]; exact Nat.le_refl _), hl]; simp
    · refine ⟨hi, (s1.trans sY).trans s4, acc, s4 _ _ (sY _ _ hacc), by rw [hrange, kf]; simpa using hl, fun j y' q => ?_⟩
      obtain ⟨i', e1, r1⟩ := ha j y' q
      exact ⟨i', by rw [hrange, kf]; simpa using e1, hR i' y' _ _ (hin j i' e1) ((Same.t sY).trans (Same.t s4)) r1⟩
  · rintro H ⟨_, s1, acc, hacc, hl, ha⟩
    exact hd H acc s1 hacc hl ha
/-! what is displayed, as data -/
def Sd (K : PySem.W.Frag) (σ : L2.St) (H : Hp) (te : TE) (d : PyData) : Prop := ∀ H1, Same H H1 → ∀ Q : VK, (∀ v H2, Same H1 H2 → Da K H2 v d → Q v H2) → te σ H1 Q
def SdA (K : PySem.W.Frag) (σ : L2.St) (H : Hp) (ta : TA) (ds : List PyData) : Prop := ∀ H1, Same H H1 → ∀ Q : List V → Hp → Prop, (∀ vs H2, Same H1 H2 → DaL K H2 vs ds → Q vs H2) → ta σ H1 Q
section
variable {K : PySem.W.Frag} {σ : L2.St} {H : Hp} {te te2 : TE} {ta : TA} {d : PyData} {ds es : List PyData} {v : V}
theorem Sd.go (h : Sd K σ H te d) {Q : VK} (k : ∀ v H2, Same H H2 → Da K H2 v d → Q v H2) : te σ H Q := h H (Same.refl _) Q k
theorem SdA.go (h : SdA K σ H ta ds) {Q : List V → Hp → Prop} (k : ∀ v H2, Same H H2 → DaL K H2 v ds → Q v H2) : ta σ H Q := h H (Same.refl _) Q k
theorem sd_var {i : Nat} (h : σ[i]? = some (some v)) (hd : Da K H v d) : Sd K σ H (tVar i) d := fun H1 e _ q => ⟨v, h, q v H1 (Same.refl _) (hd.mono e)⟩
theorem sd_str {x : Str} (h : x.length ≤ 1000000) : Sd K σ H (tC (.str x)) (.str x) := fun H1 e _ q => q _ _ (Same.refl _) (.str x h)
theorem sd_int {i : Int} : Sd K σ H (tC (.int i)) (.int i) := fun H1 e _ q => q _ _ (Same.refl _) (.int i)
theorem sd_bl {b : Bool} : Sd K σ H (tC (.bl b)) (.bool b) := fun H1 e _ q => q _ _ (Same.refl _) (.bl b)
theorem sd_non : Sd K σ H (tC .non) .none := fun H1 e _ q => q _ _ (Same.refl _) .non
theorem sda_nil : SdA K σ H tNil [] := fun H1 e _ q => q _ _ (Same.refl _) .nil
theorem sda_cons (h : Sd K σ H te d) (h2 : SdA K σ H ta ds) : SdA K σ H (tCons te ta) (d :: ds) := fun H1 e Q q =>
  h H1 e _ fun v H2 e2 hd => h2 H2 (e.trans e2) _ fun vs H3 e3 hds => q _ _ (e2.trans e3) (.cons (hd.mono e3) hds)
theorem sd_tup (h : SdA K σ H ta ds) (hl : ds.length ≤ 1000) : Sd K σ H (tTup ta) (.tuple ds) := fun H1 e Q q =>
  h H1 e _ fun vs H2 e2 hds => ⟨by rw [hds.length]; exact Nat.le_trans hl (by decide), fun p hp => q _ _ (e2.trans (same_new hp)) (.tup (SqT.of upd_same) (DaL.mono (same_new hp) hds))⟩
theorem sd_lst (h : SdA K σ H ta ds) (hl : ds.length ≤ 1000) : Sd K σ H (tLst ta) (.list ds) := fun H1 e Q q =>
  h H1 e _ fun vs H2 e2 hds => ⟨by rw [hds.length]; exact Nat.le_trans hl (by decide), fun p hp => q _ _ (e2.trans (same_new hp)) (.lst (SqL.of upd_same) (DaL.mono (same_new hp) hds))⟩
end
/-! a dict of columns -/
def kvsOf (cols : List (Str × Str)) : List (Key × V) := cols.map fun c => (Sum.inr c.1, V.str c.2)
theorem valV_kvs : ∀ (cols : List (Str × Str)) (n : Str), valV (kvsOf cols) (Sum.inr n) = (cols.lookup n).map V.str
  | [], n => rfl
  | c :: cols, n => by
    have ih := valV_kvs cols n
    unfold valV at ih ⊢
    unfold kvsOf at ih ⊢
    rw [List.map_cons, List.find?_cons, List.lookup_cons]
    by_cases h : n = c.1
    · subst h
      simp
    · rw [show decide ((Sum.inr c.1 : Key) = Sum.inr n) = false from decide_eq_false (fun q => h (Sum.inr.inj q).symm)]
      rw [show (n == c.1) = false from beq_eq_false_iff_ne.mpr h]
      exact ih
end Z
set_option Elab.async false
set_option linter.all false
set_option maxRecDepth 100000
set_option maxHeartbeats 4000000
/-! dict(t), t a tuple of pairs of which it is known that it has no __dict__ -/
namespace Z
open PySem PySem.Spec PyProof.Rows L2
def BareT (H : Hp) (v : V) : Prop := ∃ a o u, v = .ref a ∧ H a = some (.frz o u) ∧ o.dict = none
theorem BareT.mono {H H' : Hp} {v : V} (e : Same H H') (h : BareT H v) : BareT H' v := by
  obtain ⟨a, o, u, h1, h2, h3⟩ := h
  exact ⟨a, o, u, h1, e _ _ h2, h3⟩
def rTupOfB (K : PySem.W.Frag) : List V → Hp → VK → Prop := fun xs H Q => ∃ p ys, xs = [.ref p] ∧ SqL K H p ys ∧ ∀ l o, H l = none → o.dict = none → Q (.ref l) (upd H l (.frz o (.tup ys)))
theorem sqT_frz {K : PySem.W.Frag} {H : Hp} {a : Addr} {o : Obj} {ys : List V} (h : H a = some (.frz o (.tup ys))) : SqT K H a ys := .inl (.inr ⟨o, h⟩)
section
variable {X : Cx} {K : PySem.W.Frag}
theorem call_tupB : CallR X (.type "tuple") (rTupOfB X.K) := by
  intro pins s σ H xs us Q I r h
  obtain ⟨p, ys, rfl, hq, q⟩ := h
  obtain ⟨u, rfl, rx⟩ := vals1 r
  cases rx
  obtain ⟨its, r', pl, hz⟩ := I.list hq
  have hlen := r'.length
  refine call_tuple_list pl.isList (fun h' kp => ?_) (by simp only [List.size_toArray] <;> omega)
  have I1 : Inv X pins σ H { s with heap := h' } := I.kept (t' := s.toks) kp
  have I2 : Inv X pins σ (upd H h'.objs.size (.frz { cls := .type "tuple", data := .seq its.toArray } (.tup ys))) { s with heap := h'.push { cls := .type "tuple", data := .seq its.toArray } } :=
    I1.laid (t' := s.toks) (fun b o e => Heap.get?_push_of_some _ e) (Nat.le_refl _) (show ObjOk X.prog X.w _ _ _ (.frz { cls := .type "tuple", data := .seq its.toArray } (.tup ys)) from ⟨Heap.get?_push_size _ rfl, hz, its, r', IsTup.new _ _⟩)
  exact ⟨.ref h'.objs.size, _, I2, rfl, q _ _ (I1.hok.fresh (Nat.le_refl _)) rfl⟩
theorem k_tupB (h : X.K = K := by rfl) : CallR X (.type "tuple") (rTupOfB K) := by subst h; exact call_tupB
theorem pairs_of2 {pins : List (Addr × Obj)} {σ : L2.St} {H : Hp} {s : Shared} (I : Inv X pins σ H s) : ∀ {ps : List Addr} {kvs : List (Key × V)}, Paired (fun p kv => SqT X.K H p [kV kv.1, kv.2]) ps kvs →
    ∃ (prs : List (Key × Value)) (pv : List (Value × Value)), KV kvs prs ∧ prs.length = ps.length ∧ pv.length = ps.length ∧ (∀ (j : Nat) (q : Value × Value), pv[j]? = some q → ∃ (b : Addr) (k : Key), ps[j]? = some b ∧ IsTup s.heap b #[q.1, q.2] ∧ prs[j]? = some (k, q.2) ∧ (mixKind X.prog X.w).is k q.1 = true)
  | _, _, .nil => ⟨[], [], .nil, rfl, rfl, fun j q e => by simp at e⟩
  | _, _, .cons (a := p) (b := kv) h t => by
    obtain ⟨prs, pv, r, hl, hl2, hp⟩ := pairs_of2 I t
    obtain ⟨its, rv, ht, _⟩ := I.tuple h
    obtain ⟨u, y, ei, ru, ry⟩ := vals2 rv
    subst ei
    refine ⟨(kv.1, y) :: prs, (u, y) :: pv, .cons ⟨rfl, ry⟩ r, by rw [List.length_cons, List.length_cons, hl], by rw [List.length_cons, List.length_cons, hl2], fun j q e => ?_⟩
    cases j with
    | zero =>
      have e' : (u, y) = q := Option.some.inj e
      subst e'
      exact ⟨p, kv.1, rfl, ht, rfl, kV_is (P := X.prog) (w := X.w) ru⟩
    | succ j =>
      obtain ⟨b, k, e1, e2, e3, e4⟩ := hp j q (by simpa using e)
      exact ⟨b, k, by simpa using e1, e2, by simpa using e3, e4⟩
def rDictT (K : PySem.W.Frag) : List V → Hp → VK → Prop := fun xs H Q => ∃ (a : Addr) (ps : List Addr) (kvs : List (Key × V)), xs = [.ref a] ∧ SqT K H a (ps.map V.ref) ∧ BareT H (.ref a) ∧ Paired (fun p kv => SqT K H p [kV kv.1, kv.2]) ps kvs ∧
    ∀ p, H p = none → Q (.ref p) (upd H p (.dK (mergeK [] kvs)))
theorem call_dictT (hcalm : X.calm = true) : CallR X (.type "dict") (rDictT X.K) := by
  intro pins s σ H xs us Q I r q
  obtain ⟨a, ps, kvs, ex, hq, ⟨a', o, u0, ea, hb, hdn⟩, hp, q⟩ := q
  subst ex
  cases ea
  obtain ⟨u, eu, rx⟩ := vals1 r
  subst eu
  cases rx
  obtain ⟨its, rv, pl, hz⟩ := I.tuple hq
  have ei := refs_at rv
  subst ei
  rw [List.length_map] at hz
  obtain ⟨prs, pv, rel, hl, hl2, hpr⟩ := pairs_of2 I hp
  have hgo : s.heap.get? a = some o := (I.hok a _ hb).1
  obtain ⟨o', ho', hc', n, hdat'⟩ := pl
  rw [hgo] at ho'
  cases ho'
  have ok : PlainSeq "tuple" s.heap a (ps.map Value.ref).toArray ∧ PairItems s.heap (ps.map Value.ref).toArray (fun j => ps.getD j 0) pv := by
    refine ⟨⟨o, n, hgo, hc', hdn, hdat'⟩, by simp [hl2], fun j k v e => ?_⟩
    obtain ⟨b, k', e1, e2, _, _⟩ := hpr j (k, v) e
    have : ps.getD j 0 = b := by rw [List.getD_eq_getElem?_getD, e1]; rfl
    refine ⟨by simp [e1, this], .inl ?_⟩
    show s.heap.IsTuple (ps.getD j 0) #[k, v]
    rw [this]; exact e2
  refine call_dict_pairs (knd := mixKind X.prog X.w) (kvs := prs) (PairArg.tuple (prog := X.prog) (w := X.w) a _ _ pv) (I.ok.hd hcalm) ok ⟨by omega, fun i key v e => ?_⟩ (by rw [hl2]; exact hz) fun h' tk hd' k => ?_
  · obtain ⟨b, k', _, _, e3, e4⟩ := hpr i (key, v) e
    exact ⟨k', e3, e4⟩
  · have hm : (s.heap.objs.size == sysModules) = false := beq_eq_false_iff_ne.mpr (Nat.ne_of_gt I.big)
    have hlen : (mergeK [] kvs).length ≤ sizeLine := by
      refine Nat.le_trans (length_mergeK kvs []) ?_
      rw [List.length_nil, Nat.zero_add, rel.length, hl]
      exact hz
    exact ⟨.ref s.heap.objs.size, upd H s.heap.objs.size (.dK (mergeK [] kvs)), I.laid (t' := tk) (fun b o e => k b o (by simp) e) (Nat.le_refl _) (show ObjOk X.prog X.w _ _ _ (.dK (mergeK [] kvs)) from ⟨hlen, hm, merged [] prs, KV.merge rel .nil, hd'⟩), rfl, q _ (I.hok.fresh (Nat.le_refl _))⟩
theorem k_dictT (hc : X.calm = true) (h : X.K = K := by rfl) : CallR X (.type "dict") (rDictT K) := by subst h; exact call_dictT hc
end
/-- new keys, one behind another -/
theorem mergeK_new : ∀ (kvs acc : List (Key × V)), (kvs.map (·.1)).Nodup → (∀ q ∈ kvs, ∀ p ∈ acc, p.1 ≠ q.1) → mergeK acc kvs = acc ++ kvs
  | [], acc, _, _ => by simp [mergeK]
  | q :: kvs, acc, nd, h => by
    have nd1 := List.nodup_cons.mp (show (q.1 :: kvs.map (·.1)).Nodup from nd)
    have e : putK acc q.1 q.2 = acc ++ [(q.1, q.2)] := by
      have hq := h q (List.mem_cons_self ..)
      unfold putK
      rw [if_neg]
      intro c
      obtain ⟨p, hp, h1⟩ := List.any_eq_true.mp c
      exact hq p hp (of_decide_eq_true h1)
    have ih := mergeK_new kvs (acc ++ [(q.1, q.2)]) nd1.2 (fun r hr p hp => by
      rcases List.mem_append.mp hp with hp | hp
      · exact h r (List.mem_cons_of_mem _ hr) p hp
      · simp at hp; subst hp
        intro c
        exact nd1.1 (List.mem_map.mpr ⟨r, hr, c.symm⟩))
    show mergeK (putK acc q.1 q.2) kvs = _
    rw [e, ih]; simp
end Z
set_option Elab.async false
set_option linter.all false
set_option autoImplicit false
set_option maxRecDepth 100000
set_option maxHeartbeats 4000000
namespace Z
open PySem PySem.Spec PyProof.Rows L2
def top (i : Nat) : Stmt := PySem.Challenge.pw_labelframes_k15_folded_expressions.main.body.getD i (.Pass ⟨0, 0, 0, 0⟩)
abbrev FnP (K : PySem.W.Frag) (x : Str) (st : Stmt) (f : Addr) (fd : FuncData) : Prop := FunD K x x (defArgs st) (defBody st) (defScope st) [] [] f fd
def Def0 (K : PySem.W.Frag) (mg : Str → Option Value) (x : Str) (st : Stmt) : Prop := ∃ f fd, FnP K x st f fd ∧ mg x = some (.ref f)
theorem kn_of {P : Program} {w : World} {K : PySem.W.Frag} {mg : Str → Option Value} {base : Heap} {CX : CXT} {x : Str} {st : Stmt} {k : Nat} {ps : List Str} {sp : Sp} {f : Addr} {fd : FuncData} (F : FnP K x st f fd) (m : mg x = some (.ref f))
    (ok : FnOk P w K mg base CX k f fd ps sp) (b : Binds K fd ps []) : Kn P w K mg base CX x k ps [] sp := ⟨f, fd, [], ok, m, F.kp, b, .nil⟩
theorem pe_gv {X : Cx} {x : Str} {v : V} {pos : Pos} (h : ∃ u, X.mg x = some u ∧ RelV v u) (hg : Gl X x := by rfl) (hd : (x == ("__debug__" : Str)) = false := by decide) : PE X (.Name x pos) (tC v) := by
  obtain ⟨u, m, r⟩ := h
  exact pe_glob hg m r hd
structure Txt (K : PySem.W.Frag) (mg : Str → Option Value) : Prop where
  z_isinstance : mg "isinstance" = none
  z_int : mg "int" = none
  z_str : mg "str" = none
  z_bool : mg "bool" = none
  z_tuple : mg "tuple" = none
  z_len : mg "len" = none
  z_all : mg "all" = none
  z_zip : mg "zip" = none
  z_set : mg "set" = none
  z_enumerate : mg "enumerate" = none
  z_range : mg "range" = none
  z_abs : mg "abs" = none
  z_divmod : mg "divmod" = none
  z_max : mg "max" = none
  z_min : mg "min" = none
  c_MOST_LETTERS : ∃ u, mg "MOST_LETTERS" = some u ∧ RelV (.int 8) u
  c_KINDS : ∃ a, mg "KINDS" = some (.ref a) ∧ ∀ H, SqT K H a [.str "int", .str "text", .str "bool"]

/-! what is a name, a kind, a text, a value, of data -/
def wholeD : PyData → Bool
  | .int _ => true
  | _ => false
def nameS (z : Str) : Bool := decide (1 ≤ z.length ∧ z.length ≤ 8) && z.cps.toList.all fun c => decide (97 ≤ c ∧ c ≤ 122)
def nameD : PyData → Bool
  | .str z => nameS z
  | _ => false
def kindS (z : Str) : Bool := z == "int" || z == "text" || z == "bool"
def kindD : PyData → Bool
  | .str z => kindS z
  | _ => false
def textS (z : Str) : Bool := Txt.isascii z && Txt.isprintable z
def textD : PyData → Bool
  | .str z => textS z
  | _ => false
def valueD (k : Str) (d : PyData) : Bool := match d with
  | .none => true
  | d => if k = "int" then wholeD d else if k = "text" then textD d else isD d "bool"
def spD (K : PySem.W.Frag) (f : PyData → Bool) : Sp := fun vs H Q _ => ∃ v d, vs = [v] ∧ Da K H v d ∧ ∀ H', Same H H' → Q (.bl (f d)) H'
def spValue (K : PySem.W.Frag) : Sp := fun vs H Q _ => ∃ k v d, vs = [.str k, v] ∧ Da K H v d ∧ ∀ H', Same H H' → Q (.bl (valueD k d)) H'
section
variable {P : Program} {w : World} {K : PySem.W.Frag} {mg : Str → Option Value} {base : Heap}
theorem kn_is_whole (D : Def0 K mg "is_whole" (top 20)) (T : Txt K mg) : Kn P w K mg base CX0 "is_whole" 1 ["value"] [] (spD K wholeD) := by
  obtain ⟨f, fd, F, m⟩ := D
  have sc_ : FnScope ["value"] ["value"] (defScope (top 20)) := ⟨rfl, rfl, rfl, by decide +kernel, rfl, by decide +kernel, by decide +kernel⟩
  refine kn_of F m (F.ok sc_ (fun vs H Q E h => ?_) (fun cdv A outer s H vs Q E hr h => ?_)) (F.bindsN fun _ _ _ _ _ _ us hl => match us, hl with | [_], _ => rfl)
  · obtain ⟨v, d, rfl, _⟩ := h; rfl
  · obtain ⟨v, d, rfl, hd, q⟩ := h
    refine ⟨_, PSs.nox (pss_one (ps_ret (pe_and (pe_callB (k_isi (K := K)) (by rfl) T.z_isinstance (by decide +kernel) (pa_cons (pv 0) (pa_cons (pe_bltn (v := .ty "int") (by rfl) T.z_int (by decide +kernel) rfl) pa_nil))) (pe_one (pe_not (pe_callB (k_isi (K := K)) (by rfl) T.z_isinstance (by decide +kernel) (pa_cons (pv 0) (pa_cons (pe_bltn (v := .ty "bool") (by rfl) T.z_bool (by decide +kernel) rfl) pa_nil)))))))), ?_⟩
    refine ⟨_, rfl, ?_⟩
    refine ⟨_, _, _, _, _, rfl, .ty _, Da.ty hd, kit_D _ "int" (by decide), ?_⟩
    refine ⟨_, rfl, ?_⟩
    cases d with
    | int i =>
      refine ⟨_, rfl, ?_⟩
      refine ⟨_, _, _, _, _, rfl, .ty _, Da.ty hd, kit_D _ "bool" (by decide), ?_⟩
      exact ⟨_, rfl, q _ (Same.refl _)⟩
    | bool i =>
      refine ⟨_, rfl, ?_⟩
      refine ⟨_, _, _, _, _, rfl, .ty _, Da.ty hd, kit_D _ "bool" (by decide), ?_⟩
      exact ⟨_, rfl, q _ (Same.refl _)⟩
    | _ => exact q _ (Same.refl _)
end
end Z
set_option Elab.async false
set_option linter.all false
set_option autoImplicit false
set_option maxRecDepth 100000
set_option maxHeartbeats 4000000
namespace Z
open PySem PySem.Spec PyProof.Rows L2
theorem map_of {α : Type} {f : α → V} {l : List α} {acc : List V} (hl : acc.length = l.length) (h : ∀ (i : Nat) y, acc[i]? = some y → ∃ c, l[i]? = some c ∧ y = f c) : acc = l.map f := by
  apply List.ext_getElem?
  intro i
  by_cases hi : i < acc.length
  · obtain ⟨c, h1, h2⟩ := h i acc[i] (List.getElem?_eq_getElem hi)
    rw [List.getElem?_map, h1, List.getElem?_eq_getElem hi, h2]; rfl
  · rw [List.getElem?_eq_none (by omega), List.getElem?_eq_none (by rw [List.length_map]; omega)]
theorem lt1 (a b : Nat) : ([a] < [b]) ↔ a < b := by
  constructor
  · intro h
    cases h with
    | rel h => exact h
    | cons h => cases h
  · intro h; exact List.Lex.rel h
theorem ge_chr {a c : Nat} {x : Str} (hx : x.cps.toList = [a]) : (!decide ((⟨#[c]⟩ : Str).cps.toList < x.cps.toList)) = decide (a ≤ c) := by
  have e : (⟨#[c]⟩ : Str).cps.toList = [c] := rfl
  rw [hx, e]
  by_cases h : a ≤ c
  · rw [decide_eq_true h, decide_eq_false (fun q => by have := (lt1 c a).mp q; omega)]; rfl
  · rw [decide_eq_false h, decide_eq_true ((lt1 c a).mpr (by omega))]; rfl
theorem le_chr {a c : Nat} {x : Str} (hx : x.cps.toList = [a]) : (!decide (x.cps.toList < (⟨#[c]⟩ : Str).cps.toList)) = decide (c ≤ a) := by
  have e : (⟨#[c]⟩ : Str).cps.toList = [c] := rfl
  rw [hx, e]
  by_cases h : c ≤ a
  · rw [decide_eq_true h, decide_eq_false (fun q => by have := (lt1 a c).mp q; omega)]; rfl
  · rw [decide_eq_false h, decide_eq_true ((lt1 a c).mpr (by omega))]; rfl
theorem str_len (z : Str) : z.length = z.cps.toList.length := by simp [Str.length]
section
variable {P : Program} {w : World} {K : PySem.W.Frag} {mg : Str → Option Value} {base : Heap}
theorem kn_is_name (D : Def0 K mg "is_name" (top 22)) (T : Txt K mg) : Kn P w K mg base CX0 "is_name" 1 ["value"] [] (spD K nameD) := by
  obtain ⟨f, fd, F, m⟩ := D
  have sc_ : FnScope ["value", "sign"] ["value"] (defScope (top 22)) := ⟨rfl, rfl, rfl, by decide +kernel, rfl, by decide +kernel, by decide +kernel⟩
  refine kn_of F m (F.ok sc_ (fun vs H Q E h => ?_) (fun cdv A outer s H vs Q E hr h => ?_)) (F.bindsN fun _ _ _ _ _ _ us hl => match us, hl with | [_], _ => rfl)
  · obtain ⟨v, d, rfl, _⟩ := h; rfl
  · obtain ⟨v, d, rfl, hd, q⟩ := h
    refine ⟨_, PSs.nox (pss_cons (ps_if (PW.pt (pw_or (pt_not (pt_val (pe_callB (k_isi (K := K)) (by rfl) T.z_isinstance (by decide +kernel) (pa_cons (pv 0) (pa_cons (pe_bltn (v := .ty "str") (by rfl) T.z_str (by decide +kernel) rfl) pa_nil))))) (pw_or1 (pt_not (pt_chain op_le op_le pe_int (pe_callB call_len_str (by rfl) T.z_len (by decide +kernel) (pa_cons (pv 0) pa_nil)) (pe_gv T.c_MOST_LETTERS)))))) (pss_one (ps_ret pe_bl)) pss_nil)
      (pss_one (ps_ret (pe_callB (k_all (K := K) rfl) (by rfl) T.z_all (by decide +kernel) (pa_cons (pe_lc (own := [("sign", 1)]) (g := gName 1) (by rfl) sc_.nd (pi_str (pv 0)) (blkOk_by (N := ["value", "sign"]) (sc := defScope (top 22)) (by decide +kernel)) (fun _ _ _ _ _ => (pg_name (i := 1) sc_.nd rfl (by first | exact Or.inl rfl | exact Or.inr rfl))) (fun _ _ _ _ _ => pts_nil) (fun _ _ _ _ _ => (pe_chain op_le_str op_le_str pe_str (pv 1) pe_str))) pa_nil))))), ?_⟩
    refine ⟨_, rfl, ?_⟩
    refine ⟨_, _, _, _, _, rfl, .ty _, Da.ty hd, kit_D _ "str" (by decide), ?_⟩
    refine ⟨_, rfl, ?_⟩
    cases d with
    | str z =>
      obtain ⟨_, hz⟩ : v = .str z ∧ z.length ≤ 1000000 := by cases hd; exact ⟨rfl, by assumption⟩
      subst_vars
      refine ⟨_, rfl, _, rfl, Nat.le_trans hz (by decide), _, _, rfl, rfl, _, rfl, ?_⟩
      have fin : ∀ H', Same H H' → ¬ (1 ≤ z.length ∧ z.length ≤ 8) → Q (.bl false) H' := fun H' e n => by
        have := q H' e
        rw [show nameD (.str z) = false from by simp only [nameD, nameS]; rw [decide_eq_false n]; rfl] at this
        exact this
      refine ite2 (fun c1 => ?_) (fun c1 => ?_)
      · refine ⟨_, _, rfl, rfl, _, rfl, ?_⟩
        have c1' := of_decide_eq_true c1
        refine ite2 (fun c2 => ?_) (fun c2 => ?_)
        · simp only [Bool.not_eq_true', decide_eq_false_iff_not] at c2
          exact fin _ (Same.refl _) (by omega)
        · have c2' : z.length ≤ 8 := by simp at c2; omega
          refine ⟨_, rfl, _, rfl, fun D hD => lc_ok walk_str (fun i y _ => ∃ c, z.cps.toList[i]? = some c ∧ y = .bl (decide (97 ≤ c ∧ c ≤ 122))) hD (Nat.lt_of_le_of_lt (show z.cps.size ≤ 8 from c2') (by decide)) (fun _ _ => trivial) (fun _ _ _ _ _ _ h => h) (fun _ _ _ _ h => by rw [h.1]; exact Same.refl _) ?_ ?_⟩
          · rintro i x H1 H' hi s1 ⟨rfl, c, hc, rfl⟩ Q' k
            refine ⟨rfl, ?_⟩
            refine ⟨_, rfl, _, _, rfl, rfl, _, rfl, ?_⟩
            rw [ge_chr (a := 97) (by decide +kernel)]
            have hc' : z.cps.toList[i]? = some c := by simpa using hc
            refine ite2 (fun c3 => ?_) (fun c3 => ?_)
            · refine ⟨_, _, rfl, rfl, ?_⟩
              rw [le_chr (a := 122) (by decide +kernel)]
              exact k _ _ (Same.refl _) ⟨c, hc', by simp only [decide_eq_true_eq] at c3; simp [c3]⟩
            · exact k _ _ (Same.refl _) ⟨c, hc', by simp only [decide_eq_true_eq] at c3; simp [c3]⟩
          · intro H1 acc s1 hacc hl hr
            have e : acc = (z.cps.toList.map fun c => decide (97 ≤ c ∧ c ≤ 122)).map V.bl := by
              rw [List.map_map]
              exact map_of (by simpa using hl) hr
            refine ⟨_, _, rfl, SqL.of (by rw [hacc, e]), ?_⟩
            have := q H1 s1
            rw [show nameD (.str z) = (z.cps.toList.map fun c => decide (97 ≤ c ∧ c ≤ 122)).all id from by simp only [nameD, nameS]; rw [decide_eq_true (⟨by omega, c2'⟩ : 1 ≤ z.length ∧ z.length ≤ 8), List.all_map]; rfl] at this
            exact this
      · refine ⟨_, rfl, ?_⟩
        refine iteT ?_
        simp only [decide_eq_true_eq] at c1
        exact fin _ (Same.refl _) (by omega)
    | _ => exact q _ (Same.refl _)
end
end Z
set_option Elab.async false
set_option linter.all false
set_option autoImplicit false
set_option maxRecDepth 100000
set_option maxHeartbeats 4000000
namespace Z
open PySem PySem.Spec PyProof.Rows L2
theorem beq_swap (a b : Str) : (a == b) = (b == a) := by
  by_cases h : a = b
  · subst h; rfl
  · rw [beq_eq_false_iff_ne.mpr h, beq_eq_false_iff_ne.mpr (Ne.symm h)]
def pairD : PyData → Bool
  | .tuple ds => ds.length == 2
  | _ => false
def columnD : PyData → Bool
  | .tuple [a, b] => nameD a && kindD b
  | _ => false
section
variable {P : Program} {w : World} {K : PySem.W.Frag} {mg : Str → Option Value} {base : Heap}
theorem kn_is_kind (D : Def0 K mg "is_kind" (top 23)) (T : Txt K mg) : Kn P w K mg base CX0 "is_kind" 1 ["value"] [] (spD K kindD) := by
  obtain ⟨f, fd, F, m⟩ := D
  obtain ⟨a_KINDS, g_KINDS, s_KINDS⟩ := T.c_KINDS
  have sc_ : FnScope ["value"] ["value"] (defScope (top 23)) := ⟨rfl, rfl, rfl, by decide +kernel, rfl, by decide +kernel, by decide +kernel⟩
  refine kn_of F m (F.ok sc_ (fun vs H Q E h => ?_) (fun cdv A outer s H vs Q E hr h => ?_)) (F.bindsN fun _ _ _ _ _ _ us hl => match us, hl with | [_], _ => rfl)
  · obtain ⟨v, d, rfl, _⟩ := h; rfl
  · obtain ⟨v, d, rfl, hd, q⟩ := h
    refine ⟨_, PSs.nox (pss_one (ps_ret (pe_and (pe_callB (k_isi (K := K)) (by rfl) T.z_isinstance (by decide +kernel) (pa_cons (pv 0) (pa_cons (pe_bltn (v := .ty "str") (by rfl) T.z_str (by decide +kernel) rfl) pa_nil))) (pe_one (pe_cmpR (k_in (K := K)) (pv 0) (pe_gv (v := .ref a_KINDS) ⟨_, g_KINDS, rfl⟩) (by rfl)))))), ?_⟩
    refine ⟨_, rfl, ?_⟩
    refine ⟨_, _, _, _, _, rfl, .ty _, Da.ty hd, kit_D _ "str" (by decide), ?_⟩
    refine ⟨_, rfl, ?_⟩
    cases d with
    | str z =>
      obtain ⟨_, hz⟩ : v = .str z ∧ z.length ≤ 1000000 := by cases hd; exact ⟨rfl, by assumption⟩
      subst_vars
      refine ⟨_, rfl, _, _, rfl, .inr (s_KINDS _), rfl, rfl, ?_⟩
      have e : inV (.str z) [.str "int", .str "text", .str "bool"] = kindD (.str z) := by
        simp only [inV, List.any_cons, List.any_nil, eqV, kindD, kindS, Bool.or_false, Bool.or_assoc]
        rw [beq_swap "int" z, beq_swap "text" z, beq_swap "bool" z]
      show Q (.bl (inV (.str z) [.str "int", .str "text", .str "bool"])) H
      rw [e]
      exact q _ (Same.refl _)
    | _ => exact q _ (Same.refl _)
theorem kn_is_text (D : Def0 K mg "is_text" (top 24)) (T : Txt K mg) : Kn P w K mg base CX0 "is_text" 1 ["value"] [] (spD K textD) := by
  obtain ⟨f, fd, F, m⟩ := D
  have sc_ : FnScope ["value"] ["value"] (defScope (top 24)) := ⟨rfl, rfl, rfl, by decide +kernel, rfl, by decide +kernel, by decide +kernel⟩
  refine kn_of F m (F.ok sc_ (fun vs H Q E h => ?_) (fun cdv A outer s H vs Q E hr h => ?_)) (F.bindsN fun _ _ _ _ _ _ us hl => match us, hl with | [_], _ => rfl)
  · obtain ⟨v, d, rfl, _⟩ := h; rfl
  · obtain ⟨v, d, rfl, hd, q⟩ := h
    refine ⟨_, PSs.nox (pss_one (ps_ret (pe_and (pe_callB (k_isi (K := K)) (by rfl) T.z_isinstance (by decide +kernel) (pa_cons (pv 0) (pa_cons (pe_bltn (v := .ty "str") (by rfl) T.z_str (by decide +kernel) rfl) pa_nil))) (pe_and (k_bm0 (K := K) PySem.F.plainAttrs_str PySem.F.slot_str_isascii PySem.F.type_str_isascii mt_isascii (pv 0)) (pe_one (k_bm0 (K := K) PySem.F.plainAttrs_str PySem.F.slot_str_isprintable PySem.F.type_str_isprintable mt_isprintable (pv 0))))))), ?_⟩
    refine ⟨_, rfl, ?_⟩
    refine ⟨_, _, _, _, _, rfl, .ty _, Da.ty hd, kit_D _ "str" (by decide), ?_⟩
    refine ⟨_, rfl, ?_⟩
    cases d with
    | str z =>
      obtain ⟨_, hz⟩ : v = .str z ∧ z.length ≤ 1000000 := by cases hd; exact ⟨rfl, by assumption⟩
      subst_vars
      refine ⟨_, rfl, rfl, _, rfl, rfl, trivial, _, rfl, ?_⟩
      refine ite2 (fun c => ?_) (fun c => ?_)
      · refine ⟨_, rfl, rfl, _, rfl, rfl, trivial, ?_⟩
        have := q _ (Same.refl _)
        rw [show textD (.str z) = Txt.isprintable z from by simp [textD, textS, c]] at this
        exact this
      · have := q _ (Same.refl _)
        rw [show textD (.str z) = false from by simp [textD, textS, c]] at this
        exact this
    | _ => exact q _ (Same.refl _)
theorem kn_is_value (D : Def0 K mg "is_value" (top 25)) (T : Txt K mg) (F_is_whole : Kn P w K mg base CX0 "is_whole" 1 ["value"] [] (spD K wholeD)) (F_is_text : Kn P w K mg base CX0 "is_text" 1 ["value"] [] (spD K textD)) : Kn P w K mg base CX0 "is_value" 2 ["kind", "value"] [] (spValue K) := by
  obtain ⟨f, fd, F, m⟩ := D
  have sc_ : FnScope ["kind", "value"] ["kind", "value"] (defScope (top 25)) := ⟨rfl, rfl, rfl, by decide +kernel, rfl, by decide +kernel, by decide +kernel⟩
  refine kn_of F m (F.ok sc_ (fun vs H Q E h => ?_) (fun cdv A outer s H vs Q E hr h => ?_)) (F.bindsN fun _ _ _ _ _ _ us hl => match us, hl with | [_, _], _ => rfl)
  · obtain ⟨k, v, d, rfl, _⟩ := h; rfl
  · obtain ⟨k, v, d, rfl, hd, q⟩ := h
    refine ⟨_, PSs.nox (pss_cons (ps_if (pt_cmpR op_isN (pv 1) pe_non (nomark _)) (pss_one (ps_ret pe_bl)) pss_nil)
      (pss_cons (ps_if (pt_cmpR op_eq (pv 0) pe_str (nomark _)) (pss_one (ps_ret (pe_own F_is_whole hr (by first | decide | omega | (simp only [Nat.add_eq]; omega)) pass0 (pa_cons (pv 1) pa_nil)))) pss_nil)
      (pss_cons (ps_if (pt_cmpR op_eq (pv 0) pe_str (nomark _)) (pss_one (ps_ret (pe_own F_is_text hr (by first | decide | omega | (simp only [Nat.add_eq]; omega)) pass0 (pa_cons (pv 1) pa_nil)))) pss_nil)
      (pss_one (ps_ret (pe_callB (k_isi (K := K)) (by rfl) T.z_isinstance (by decide +kernel) (pa_cons (pv 1) (pa_cons (pe_bltn (v := .ty "bool") (by rfl) T.z_bool (by decide +kernel) rfl) pa_nil)))))))), ?_⟩
    refine ⟨_, rfl, rfl, _, rfl, ?_⟩
    by_cases hn : v = .non
    · subst hn
      cases hd
      exact q _ (Same.refl _)
    · rw [decide_eq_false hn]
      refine iteF ?_
      have hv : valueD k d = if k = "int" then wholeD d else if k = "text" then textD d else isD d "bool" := by
        cases d <;> first | rfl | (cases hd; exact absurd rfl hn)
      refine ⟨_, rfl, rfl, _, rfl, ?_⟩
      by_cases h1 : k = "int"
      · rw [decide_eq_true (congrArg V.str h1)]
        refine iteT ?_
        refine ⟨_, rfl, _, _, rfl, hd, fun H' e => ?_⟩
        rw [if_pos h1] at hv
        rw [← hv]; exact q H' e
      · rw [decide_eq_false (fun c => h1 (V.str.inj c))]
        refine iteF ?_
        rw [if_neg h1] at hv
        refine ⟨_, rfl, rfl, _, rfl, ?_⟩
        by_cases h2 : k = "text"
        · rw [decide_eq_true (congrArg V.str h2)]
          refine iteT ?_
          refine ⟨_, rfl, _, _, rfl, hd, fun H' e => ?_⟩
          rw [if_pos h2] at hv
          rw [← hv]; exact q H' e
        · rw [decide_eq_false (fun c => h2 (V.str.inj c))]
          refine iteF ?_
          rw [if_neg h2] at hv
          refine ⟨_, rfl, ?_⟩
          refine ⟨_, _, _, _, _, rfl, .ty _, Da.ty hd, kit_D _ "bool" (by decide), ?_⟩
          rw [← hv]; exact q _ (Same.refl _)
theorem kn_is_pair (D : Def0 K mg "is_pair" (top 26)) (T : Txt K mg) : Kn P w K mg base CX0 "is_pair" 1 ["value"] [] (spD K pairD) := by
  obtain ⟨f, fd, F, m⟩ := D
  have sc_ : FnScope ["value"] ["value"] (defScope (top 26)) := ⟨rfl, rfl, rfl, by decide +kernel, rfl, by decide +kernel, by decide +kernel⟩
  refine kn_of F m (F.ok sc_ (fun vs H Q E h => ?_) (fun cdv A outer s H vs Q E hr h => ?_)) (F.bindsN fun _ _ _ _ _ _ us hl => match us, hl with | [_], _ => rfl)
  · obtain ⟨v, d, rfl, _⟩ := h; rfl
  · obtain ⟨v, d, rfl, hd, q⟩ := h
    refine ⟨_, PSs.nox (pss_one (ps_ret (pe_and (pe_callB (k_isi (K := K)) (by rfl) T.z_isinstance (by decide +kernel) (pa_cons (pv 0) (pa_cons (pe_bltn (v := .ty "tuple") (by rfl) T.z_tuple (by decide +kernel) rfl) pa_nil))) (pe_one (pe_cmpR op_eq (pe_callB (k_len (K := K)) (by rfl) T.z_len (by decide +kernel) (pa_cons (pv 0) pa_nil)) pe_int (nomark _)))))), ?_⟩
    refine ⟨_, rfl, ?_⟩
    refine ⟨_, _, _, _, _, rfl, .ty _, Da.ty hd, kit_D _ "tuple" (by decide), ?_⟩
    refine ⟨_, rfl, ?_⟩
    cases d with
    | tuple ds =>
      cases hd with
      | tup hs hl =>
        refine ⟨_, rfl, _, _, rfl, .inr hs, rfl, ?_⟩
        have := q _ (Same.refl _)
        rw [show pairD (.tuple ds) = decide (V.int ((_ : List V).length : Int) = V.int 2) from by
          rw [DaL.length hl, pairD, dec_int]
          by_cases h : ds.length = 2
          · rw [h]; rfl
          · rw [beq_eq_false_iff_ne.mpr h, beq_eq_false_iff_ne.mpr (by omega)]] at this
        exact this
    | _ => exact q _ (Same.refl _)
end
end Z
set_option Elab.async false
set_option linter.all false
set_option autoImplicit false
set_option maxRecDepth 100000
set_option maxHeartbeats 4000000
namespace Z
open PySem PySem.Spec PyProof.Rows L2
theorem call_lenS {X : Cx} : CallR X (.builtin "len") (fun xs H Q => ∃ a S n, xs = [.ref a] ∧ H a = some (SetK X.prog X.w a S n) ∧ Q (.int n) H) := by
  intro pins s σ H xs us Q I r h
  obtain ⟨a, S, n, rfl, ha, q⟩ := h
  obtain ⟨u, rfl, rx⟩ := vals1 r
  cases rx
  obtain ⟨o, es, ep, t, h1, h2, h3, _, _, h6, h7, h8⟩ := setK_get I ha
  subst h8
  exact call_len_set h1 h2 h3 h7 (by have : (4096 : Nat) < 2 ^ 63 := by decide
                                     have := (show es.size < 4096 from h6); omega) ⟨.int es.size, H, I.tok _, ⟨s.toks + 1, rfl⟩, q⟩
def colName : PyData → Option Str
  | .tuple (.str z :: _) => some z
  | _ => none
/-- the number of names ahead of the first column that is none or has an earlier name -/
def vc : List Str → List PyData → Nat
  | seen, [] => seen.length
  | seen, d :: ds => if columnD d = true then (match colName d with
    | some z => if z ∈ seen then seen.length else vc (seen ++ [z]) ds
    | none => seen.length) else seen.length
theorem col_of {d : PyData} (h : columnD d = true) : ∃ z k, d = .tuple [.str z, .str k] ∧ nameS z = true ∧ kindS k = true := by
  unfold columnD at h
  split at h
  · rename_i a b
    rw [Bool.and_eq_true] at h
    obtain ⟨h1, h2⟩ := h
    cases a <;> first | (cases h1; done) | skip
    cases b <;> first | (cases h2; done) | skip
    exact ⟨_, _, rfl, h1, h2⟩
  · cases h
def spValid (K : PySem.W.Frag) : Sp := fun vs H Q _ => ∃ v ds, vs = [v] ∧ Da K H v (.tuple ds) ∧ ds.length ≤ 4000 ∧ ∀ H', Same H H' → Q (.int (vc [] ds : Nat)) H'
theorem drop_cons {α : Type} {l : List α} {i : Nat} {x : α} (h : l[i]? = some x) : l.drop i = x :: l.drop (i + 1) := by
  have hi := (List.getElem?_eq_some_iff.mp h).1
  have hx := (List.getElem?_eq_some_iff.mp h).2
  rw [List.drop_eq_getElem_cons hi, hx]
section
variable {P : Program} {w : World} {K : PySem.W.Frag} {mg : Str → Option Value} {base : Heap}
end
end Z
set_option Elab.async false
set_option linter.all false
set_option autoImplicit false
set_option maxRecDepth 100000
set_option maxHeartbeats 4000000
namespace Z
open PySem PySem.Spec PyProof.Rows L2
theorem walk_zipT {K : PySem.W.Frag} {a b : Addr} {xs ys : List V} {n : Nat} (hx : xs.length = n) (hy : ys.length = n) :
    Walk (RZ.ItzT K a b) n (fun H => SqT K H a xs ∧ SqT K H b ys) (YPair (fun i => xs[i]?) (fun i => ys[i]?)) where
  goes := fun i H hi ⟨h1, h2⟩ => ⟨xs, ys, xs[i]'(by omega), ys[i]'(by omega), h1, h2, List.getElem?_eq_getElem _, List.getElem?_eq_getElem _⟩
  stops := fun H ⟨h1, h2⟩ => ⟨xs, ys, h1, h2, .inl (by omega)⟩
  yields := fun i H x H' hi ⟨h1, h2⟩ ⟨t, u, v, e1, e2, e3, e4, e5⟩ => ⟨t, u, v, e1, e2, e3, e4 _ h1, e5 _ h2⟩
/-- columns as data -/
def colsD (cols : List (Str × Str)) : List PyData := cols.map fun c => .tuple [.str c.1, .str c.2]
def rowD (cols : List (Str × Str)) : PyData → Bool
  | .tuple ds => ds.length == cols.length && (cols.zip ds).all fun p => valueD p.1.2 p.2
  | _ => false
def spSchemaOk (K : PySem.W.Frag) : Sp := fun vs H Q _ => ∃ v ds, vs = [v] ∧ Da K H v (.tuple ds) ∧ ds ≠ [] ∧ ds.length ≤ 4000 ∧ vc [] ds = ds.length ∧ ∀ H', Same H H' → Q .non H'
def spRow (K : PySem.W.Frag) : Sp := fun vs H Q _ => ∃ v d u cols, vs = [v, u] ∧ Da K H v d ∧ Da K H u (.tuple (colsD cols)) ∧ cols.length ≤ 100000 ∧ ∀ H', Same H H' → Q (.bl (rowD cols d)) H'
/-- a schema's columns: names, kinds, no name twice -/
def colsOk (cols : List (Str × Str)) : Prop := cols ≠ [] ∧ cols.length ≤ 4000 ∧ (∀ c ∈ cols, nameS c.1 = true ∧ kindS c.2 = true) ∧ (cols.map (·.1)).Nodup
theorem vc_ok : ∀ (cols : List (Str × Str)) (seen : List Str), (∀ c ∈ cols, nameS c.1 = true ∧ kindS c.2 = true) → (cols.map (·.1)).Nodup → (∀ c ∈ cols, c.1 ∉ seen) → vc seen (colsD cols) = seen.length + cols.length
  | [], seen, _, _, _ => by simp [colsD, vc]
  | c :: cols, seen, h, nd, hs => by
    have h1 := h c (List.mem_cons_self ..)
    have nd1 := List.nodup_cons.mp (show (c.1 :: cols.map (·.1)).Nodup from nd)
    have ih := vc_ok cols (seen ++ [c.1]) (fun d hd => h d (List.mem_cons_of_mem _ hd)) nd1.2 (fun d hd q => by
      rcases List.mem_append.mp q with q | q
      · exact hs d (List.mem_cons_of_mem _ hd) q
      · simp at q; exact nd1.1 (List.mem_map.mpr ⟨d, hd, q⟩))
    show vc seen (.tuple [.str c.1, .str c.2] :: colsD cols) = _
    rw [vc, if_pos (by simp [columnD, nameD, kindD, h1])]
    show (if c.1 ∈ seen then _ else _) = _
    rw [if_neg (hs c (List.mem_cons_self ..)), ih]
    simp; omega
section
variable {P : Program} {w : World} {K : PySem.W.Frag} {mg : Str → Option Value} {base : Heap}
end
end Z
set_option Elab.async false
set_option linter.all false
set_option autoImplicit false
set_option maxRecDepth 100000
set_option maxHeartbeats 4000000
namespace Z
open PySem PySem.Spec PyProof.Rows L2
def spLCell (K : PySem.W.Frag) : Sp := fun vs H Q _ => ∃ (a : Addr) (ns : List Int) (k : Int), vs = [.ref a, .int k] ∧ SqL K H a (ns.map V.int) ∧ 0 ≤ k ∧ k < 1000 ∧ ∀ i H', Same H H' → Q (.int i) H'
def spPoolL : Sp := fun vs H Q _ => ∃ c, vs = [.int c] ∧ ∀ i j k p H', -(2 ^ 64) < i → i < 2 ^ 64 → H p = none → Same H H' → H' p = some (.lst [.int i, .int j, .int k]) → Q (.ref p) H'
def spPool : Sp := fun vs H Q _ => ∃ c, vs = [.int c] ∧ ∀ p H', H p = none → Same H H' → H' p = some (Pool p) → Q (.ref p) H'
def spDrawL : Sp := fun vs H Q _ => ∃ p i j k many, vs = [.ref p, .int many] ∧ H p = some (.lst [.int i, .int j, .int k]) ∧ -(2 ^ 64) < i ∧ i < 2 ^ 64 ∧ 1 ≤ many ∧ many < 1073741824 ∧
  ∀ d i' j' k' H', 0 ≤ d → d < many → -(2 ^ 64) < i' → i' < 2 ^ 64 → (∀ b o, b ≠ p → H b = some o → H' b = some o) → H' p = some (.lst [.int i', .int j', .int k']) → Q (.int d) H'
def spDraw : Sp := fun vs H Q _ => ∃ p many, vs = [.ref p, .int many] ∧ H p = some (Pool p) ∧ 1 ≤ many ∧ many < 1073741824 ∧ ∀ d H', 0 ≤ d → d < many → Same H H' → Q (.int d) H'
section
variable {P : Program} {w : World} {K : PySem.W.Frag} {mg : Str → Option Value} {base : Heap} {C : Addr}
theorem kn__law_cell (D : Def0 K mg "_law_cell" (top 52)) (T : Txt K mg) : Kn P w K mg base CX0 "_law_cell" 1 ["script", "k"] [] (spLCell K) := by
  obtain ⟨f, fd, F, m⟩ := D
  have sc_ : FnScope ["script", "k", "state_here", "cell"] ["script", "k"] (defScope (top 52)) := ⟨rfl, rfl, rfl, by decide +kernel, rfl, by decide +kernel, by decide +kernel⟩
  refine kn_of F m (F.ok sc_ (fun vs H Q E h => ?_) (fun cdv A outer s H vs Q E hr h => ?_)) (F.bindsN fun _ _ _ _ _ _ us hl => match us, hl with | [_, _], _ => rfl)
  · obtain ⟨a, ns, k, rfl, _⟩ := h; rfl
  · obtain ⟨a, ns, k, rfl, hs, hk0, hk1, q⟩ := h
    refine ⟨_, PSs.nox (pss_cons (ps_if (pt_cmpR op_lt (pv 1) (pe_callB (k_len (K := K)) (by rfl) T.z_len (by decide +kernel) (pa_cons (pv 0) pa_nil)) (nomark _)) (pss_one (ps_ret (pe_ix (k_ixL (K := K)) (pv 0) (pv 1) (fun _ _ => rfl)))) pss_nil)
      (pss_cons (ps_set (i := 2) sc_.nd rfl (by first | exact Or.inl rfl | exact Or.inr rfl) (pe_op op_mod (pe_op op_mul pe_int (pe_op op_add (pe_op op_add (pe_op op_mul (pv 1) (pv 1)) (pe_op op_mul pe_int (pv 1))) pe_int)) pe_int))
      (pss_cons (ps_for PassesOwn.never rfl (k_list (K := K) (pe_slice (k_slL (K := K)) (pv 0) po_none (po_some pe_int))) (pg_name (i := 3) sc_.nd rfl (by first | exact Or.inl rfl | exact Or.inr rfl))
        (pss_one (ps_set (i := 2) sc_.nd rfl (by first | exact Or.inl rfl | exact Or.inr rfl) (pe_op op_mod (pe_op op_add (pe_op op_mul (pv 2) pe_int) (pv 3)) pe_int))))
      (pss_one (ps_ret (pv 2)))))), ?_⟩
    refine ⟨_, rfl, _, rfl, a, _, rfl, .inl hs, _, _, rfl, rfl, _, rfl, ?_⟩
    refine ite2 (fun c => ?_) (fun c => ?_)
    · simp only [decide_eq_true_eq, List.length_map] at c
      obtain ⟨n, rfl⟩ : ∃ n : Nat, k = (n : Int) := ⟨k.toNat, by omega⟩
      have hn : n < ns.length := by omega
      exact ⟨_, rfl, _, rfl, a, _, _, V.int ns[n], rfl, rfl, hs, atI_nat (by rw [List.getElem?_map, List.getElem?_eq_getElem hn]; rfl), q _ _ (Same.refl _)⟩
    · refine ⟨_, rfl, _, rfl, _, _, rfl, rfl, Or.inl ⟨by omega, by omega⟩, _, rfl, _, _, rfl, rfl, Or.inl ⟨by decide, by decide⟩, _, _, rfl, rfl, _, _, rfl, rfl, _, _, rfl, rfl, Or.inl ⟨by decide, by decide⟩, _, _, rfl, rfl, (by show (0 : Int) < 2147483423; decide), ?_⟩
      refine ⟨_, rfl, _, rfl, a, _, rfl, hs, fun p hp => ⟨p, rfl, ⟨_, SqL.of upd_same⟩, for_list (K := K) (a := p) (xs := _) (fun i σ H' => ∃ z o, σ = [some (.ref a), some (.int k), some (.int z), o] ∧ Same (upd H p (.lst (cutV (ns.map V.int) none (some 3)))) H') ⟨_, none, rfl, Same.refl _⟩ (fun i σ H' _ ⟨_, _, _, e⟩ => SqL.of (e _ _ upd_same)) ?_ ?_⟩⟩
      · rintro i y σ H' hi ⟨z, o, rfl, e⟩
        obtain ⟨u, rfl⟩ : ∃ u, y = V.int u := by
          have h1 : y ∈ cutV (ns.map V.int) none (some 3) := List.mem_of_getElem? hi
          have h2 : y ∈ ns.map V.int := List.mem_of_mem_drop (List.mem_of_mem_take h1)
          obtain ⟨u, _, rfl⟩ := List.mem_map.mp h2
          exact ⟨u, rfl⟩
        exact ⟨_, rfl, _, _, rfl, rfl, Or.inr ⟨by decide, by decide⟩, _, rfl, _, _, rfl, rfl, _, _, rfl, rfl, (by show (0 : Int) < 2147483423; decide), _, _, rfl, e⟩
      · rintro σ H' ⟨z, o, rfl, e⟩
        exact ⟨_, rfl, q _ _ ((same_new hp).trans e)⟩
theorem kn__law_pool (D : Def0 K mg "_law_pool" (top 53)) (T : Txt K mg) : Kn P w K mg base CX0 "_law_pool" 1 ["cell"] [] spPool := by
  obtain ⟨f, fd, F, m⟩ := D
  have sc_ : FnScope ["cell", "digits"] ["cell"] (defScope (top 53)) := ⟨rfl, rfl, rfl, by decide +kernel, rfl, by decide +kernel, by decide +kernel⟩
  have ok : FnOk P w K mg base CX0 1 f fd ["cell"] spPoolL := by
    refine F.ok sc_ (fun vs H Q E h => ?_) (fun cdv A outer s H vs Q E hr h => ?_)
    · obtain ⟨c, rfl, _⟩ := h; rfl
    · obtain ⟨c, rfl, q⟩ := h
      refine ⟨_, PSs.nox (pss_cons (ps_set (i := 1) sc_.nd rfl (by first | exact Or.inl rfl | exact Or.inr rfl) (pe_ifExp (PW.pt (pw_or (pt_cmpR op_lt (pv 0) pe_int (nomark _)) (pw_or1 (pt_cmpR op_ge (pv 0) (pe_op op_pow pe_int pe_int) (nomark _))))) (pe_callB call_abs (by rfl) T.z_abs (by decide +kernel) (pa_cons (pv 0) pa_nil)) pe_int))
      (pss_one (ps_ret (pe_lst (pa_cons (pe_op op_mod (pv 0) pe_int) (pa_cons (pv 1) (pa_cons pe_int pa_nil))))))), ?_⟩
      refine ⟨_, rfl, _, _, rfl, rfl, _, rfl, ?_⟩
      have fin : ∀ (j : Int), L2.tRet (tLst (tCons (tOp (rI (fun _ j => 0 < j) fun i j => .int (i % j)) (tVar 0) (tC (.int 2147483423))) (tCons (tVar 1) (tCons (tC (.int 0)) tNil)))) { nx := fun _ H' => Q .non H', rt := Q } [some (.int c), some (.int j)] H := fun j => by
        refine ⟨_, rfl, _, _, rfl, rfl, (by show (0 : Int) < 2147483423; decide), _, rfl, by show 3 ≤ sizeLine; decide, fun p hp => ?_⟩
        exact q _ _ _ p _ (by have := Int.emod_nonneg c (show (2147483423 : Int) ≠ 0 by decide); omega) (by have := Int.emod_lt_of_pos c (show (0 : Int) < 2147483423 by decide); omega) hp (same_new hp) upd_same
      refine ite2 (fun _ => iteT ⟨_, rfl, _, rfl, fin _⟩) (fun _ => ?_)
      refine ⟨_, rfl, _, _, rfl, rfl, ⟨by decide, by decide, by decide⟩, _, _, rfl, rfl, _, rfl, ?_⟩
      exact ite2 (fun _ => ⟨_, rfl, _, rfl, fin _⟩) (fun _ => fin 0)
  refine kn_of F m (FnOk.poolNew ok fun vs H Q E h => ?_) (F.bindsN fun _ _ _ _ _ _ us hl => match us, hl with | [_], _ => rfl)
  obtain ⟨c, rfl, q⟩ := h
  exact ⟨c, rfl, fun i j k p H' a b hp e hp' => ⟨p, i, j, k, a, b, hp, hp', q p _ hp (fun b' o h => by rw [upd_ne (ne_of_none h hp)]; exact e _ _ h) upd_same⟩⟩
theorem kn__law_draw (D : Def0 K mg "_law_draw" (top 54)) (T : Txt K mg) : Kn P w K mg base CX0 "_law_draw" 1 ["pool", "many"] [] spDraw := by
  obtain ⟨f, fd, F, m⟩ := D
  have sc_ : FnScope ["pool", "many", "was", "more", "digit"] ["pool", "many"] (defScope (top 54)) := ⟨rfl, rfl, rfl, by decide +kernel, rfl, by decide +kernel, by decide +kernel⟩
  have ok : FnOk P w K mg base CX0 1 f fd ["pool", "many"] spDrawL := by
    refine F.ok sc_ (fun vs H Q E h => ?_) (fun cdv A outer s H vs Q E hr h => ?_)
    · obtain ⟨p, i, j, k, many, rfl, _⟩ := h; rfl
    · obtain ⟨p, i, j, k, many, rfl, hp, hi1, hi2, hm1, hm2, q⟩ := h
      refine ⟨_, PSs.nox (pss_cons (ps_asg (pe_op op_add (pe_ix (k_ixL (K := K)) (pv 0) pe_int (fun _ _ => rfl)) pe_int) (pg_sub (pv 0) pe_int set_list))
      (pss_cons (ps_par (i := 2) (j := 3) (by rfl) sc_.nd rfl rfl (by decide) rfl rfl (pa_cons (pe_ix (k_ixL (K := K)) (pv 0) pe_int (fun _ _ => rfl)) (pa_cons (pe_op op_add (pe_op op_mul pe_int (pe_ix (k_ixL (K := K)) (pv 0) pe_int (fun _ _ => rfl))) pe_int) pa_nil)) (by rfl))
      (pss_cons (ps_asg (pe_op op_mod (pe_op op_add (pe_op op_mul (pv 2) (pe_op op_add (pe_op op_mod (pv 2) pe_int) pe_int)) (pv 3)) pe_int) (pg_sub (pv 0) pe_int set_list))
      (pss_cons (ps_if (pt_cmpR op_gt (pe_ix (k_ixL (K := K)) (pv 0) pe_int (fun _ _ => rfl)) pe_int (nomark _)) (pss_cons (ps_asg (pe_callB call_divmod (by rfl) T.z_divmod (by decide +kernel) (pa_cons (pe_ix (k_ixL (K := K)) (pv 0) pe_int (fun _ _ => rfl)) (pa_cons (pv 1) pa_nil))) (k_pgT (K := K) (pgs_cons (pg_sub (pv 0) pe_int set_list) (pgs_cons (pg_name (i := 4) sc_.nd rfl (by first | exact Or.inl rfl | exact Or.inr rfl)) pgs_nil))))
      (pss_one (ps_ret (pv 4)))) pss_nil)
      (pss_one (ps_ret (pe_op op_mod (pe_op op_fdiv (pe_ix (k_ixL (K := K)) (pv 0) pe_int (fun _ _ => rfl)) pe_int) (pv 1)))))))), ?_⟩
      -- the third number goes up by one
      refine ⟨_, rfl, p, _, _, _, rfl, rfl, SqL.of hp, atI_nat (j := 2) rfl, _, _, rfl, rfl, _, rfl, p, _, _, 2, rfl, rfl, hp, rfl, ?_⟩
      refine ⟨_, rfl, p, _, _, _, rfl, rfl, SqL.of upd_same, atI_nat (j := 0) rfl, _, rfl, p, _, _, _, rfl, rfl, SqL.of upd_same, atI_nat (j := 2) rfl, _, _, rfl, rfl, Or.inl ⟨by decide, by decide⟩, _, _, rfl, rfl, _, _, rfl, ?_⟩
      refine ⟨_, rfl, _, rfl, _, _, rfl, rfl, (by show (0 : Int) < 43013; decide), _, _, rfl, rfl, _, _, rfl, rfl, Or.inl ⟨hi1, hi2⟩, _, rfl, _, _, rfl, rfl, _, _, rfl, rfl, (by show (0 : Int) < 2147483423; decide), _, rfl, p, _, _, 0, rfl, rfl, upd_same, rfl, ?_⟩
      have b1 := Int.emod_nonneg (i * (i % 43013 + 26003) + (60029 * (k + 1) + 19)) (show (2147483423 : Int) ≠ 0 by decide)
      have b2 := Int.emod_lt_of_pos (i * (i % 43013 + 26003) + (60029 * (k + 1) + 19)) (show (0 : Int) < 2147483423 by decide)
      generalize hz : (i * (i % 43013 + 26003) + (60029 * (k + 1) + 19)) % 2147483423 = z at b1 b2
      have keep : ∀ o1 o2, ∀ b o, b ≠ p → H b = some o → (upd (upd H p o1) p o2) b = some o := fun o1 o2 b o hb h => by
        rw [upd_ne hb, upd_ne hb]; exact h
      refine ⟨_, rfl, p, _, _, _, rfl, rfl, SqL.of upd_same, atI_nat (j := 1) rfl, _, _, rfl, rfl, _, rfl, ?_⟩
      refine ite2 (fun c => ?_) (fun c => ?_)
      · refine ⟨_, rfl, p, _, _, _, rfl, rfl, SqL.of upd_same, atI_nat (j := 1) rfl, _, rfl, _, _, rfl, ⟨by omega, hm2⟩, fun t ht => ?_⟩
        have ne : p ≠ t := fun e => by rw [← e, upd_same] at ht; cases ht
        have htn : H t = none := by rw [upd_ne (Ne.symm ne), upd_ne (Ne.symm ne)] at ht; exact ht
        refine ⟨t, _, rfl, SqT.of upd_same, rfl, _, _, rfl, ?_⟩
        refine ⟨_, rfl, p, _, _, 1, rfl, rfl, (by rw [upd_ne ne, upd_same]), rfl, ?_⟩
        refine ⟨_, _, rfl, rfl, _, rfl, ?_⟩
        exact q _ _ _ _ _ (Int.emod_nonneg _ (by omega)) (Int.emod_lt_of_pos _ (by omega)) (show -(2 ^ 64) < z by omega) (show z < 2 ^ 64 by omega) (fun b o hb h => by
          rw [upd_ne hb, upd_ne (ne_of_none h htn)]; exact keep _ _ b o hb h) (by rw [upd_same, ← hz]; rfl)
      · refine ⟨_, rfl, p, _, _, _, rfl, rfl, SqL.of upd_same, atI_nat (j := 0) rfl, _, _, rfl, rfl, ⟨by decide, by decide⟩, _, rfl, _, _, rfl, rfl, (by show 0 < many; omega), ?_⟩
        exact q _ _ _ _ _ (Int.emod_nonneg _ (by omega)) (Int.emod_lt_of_pos _ (by omega)) (show -(2 ^ 64) < z by omega) (show z < 2 ^ 64 by omega) (keep _ _) (by rw [upd_same, ← hz]; rfl)
  refine kn_of F m (FnOk.pool ok fun vs H Q E h => ?_) (F.bindsN fun _ _ _ _ _ _ us hl => match us, hl with | [_, _], _ => rfl)
  obtain ⟨p, many, rfl, hp, h1, h2, q⟩ := h
  refine ⟨p, hp, fun i j k a b => ⟨p, i, j, k, many, rfl, upd_same, a, b, h1, h2, fun d i' j' k' H' d0 d1 a' b' kp hp' => ⟨i', j', k', a', b', hp', q d _ d0 d1 fun c o h => ?_⟩⟩⟩
  by_cases hc : c = p
  · subst hc; rw [hp] at h; cases h; exact upd_same
  · rw [upd_ne hc]; exact kp c o hc (by rw [upd_ne hc]; exact h)
end
end Z
set_option Elab.async false
set_option linter.all false
set_option autoImplicit false
set_option maxRecDepth 100000
set_option maxHeartbeats 4000000
namespace Z
open PySem PySem.Spec PyProof.Rows L2
theorem mul_small {z : Str} {n : Int} (h1 : z.length ≤ 1000) (h2 : n ≤ 1000) (h3 : -1000 ≤ n) : MulOk z n := by
  refine ⟨?_, fun a _ => ?_, fun a _ => ?_⟩
  · rw [Bool.or_eq_false_iff]; exact ⟨decide_eq_false (by omega), decide_eq_false (by omega)⟩
  · have : (1000 : Int) ≤ (2 ^ 63 - 1) / n := Int.le_ediv_of_mul_le (by omega) (by omega)
    omega
  · have e : n.toNat ≤ 1000 := by omega
    have := Nat.mul_le_mul h1 e
    unfold Builtin.Str.tooLong
    have h4 : (1000000 : Nat) ≤ sizeLine := by decide
    simp; omega
def ownL : List Str := ["scan", "where", "pick", "add", "there", "up", "all", "int", "count", "none", "value", "rows"]
def ownAt (b i : Nat) : Str := ownL.getD ((b + 5 * i) % 12) ""
def letAt (b i : Nat) : Str := Txt.mul ⟨#[97 + (b + 5 * i) % 26]⟩ (([1, 1, 2, 8] : List Int).getD (i % 4) 0)
theorem own_ok : ((List.range 12).all fun b => ((List.range 12).all fun i => nameS (ownAt b i)) && decide ((List.range 12).map (ownAt b)).Nodup) = true := by decide +kernel
theorem let_ok : ((List.range 12).all fun b => ((List.range 12).all fun i => nameS (letAt b i)) && decide ((List.range 12).map (letAt b)).Nodup) = true := by decide +kernel
theorem names_ok {g : Nat → Nat → Str} (h : ((List.range 12).all fun b => ((List.range 12).all fun i => nameS (g b i)) && decide ((List.range 12).map (g b)).Nodup) = true) {b n : Nat} (hb : b < 12) (hn : n ≤ 12) :
    (∀ z ∈ (List.range n).map (g b), nameS z = true) ∧ ((List.range n).map (g b)).Nodup := by
  have h1 := List.all_eq_true.mp h b (List.mem_range.mpr hb)
  rw [Bool.and_eq_true] at h1
  refine ⟨fun z hz => ?_, ?_⟩
  · obtain ⟨i, hi, rfl⟩ := List.mem_map.mp hz
    exact List.all_eq_true.mp h1.1 i (List.mem_range.mpr (by have := List.mem_range.mp hi; omega))
  · have h2 := of_decide_eq_true h1.2
    refine List.Nodup.sublist (List.Sublist.map _ ?_) h2
    exact List.range_sublist.mpr hn
def spCalls : Sp := fun vs H Q _ => ∃ p many, vs = [.ref p, .int many] ∧ H p = some (Pool p) ∧ 1 ≤ many ∧ many ≤ 12 ∧
  ∀ l (names : List Str) H', (names.length : Int) = many → (∀ z ∈ names, nameS z = true) → names.Nodup → Same H H' → H' l = some (.lst (names.map V.str)) → Q (.ref l) H'
theorem letters_at (j : Nat) (h : j < 26) : (Str.ofString "abcdefghijklmnopqrstuvwxyz").cps.toList[j]? = some (97 + j) := by
  have : ((List.range 26).all fun j => decide ((Str.ofString "abcdefghijklmnopqrstuvwxyz").cps.toList[j]? = some (97 + j))) = true := by decide +kernel
  exact of_decide_eq_true (List.all_eq_true.mp this j (List.mem_range.mpr h))
section
variable {P : Program} {w : World} {K : PySem.W.Frag} {mg : Str → Option Value} {base : Heap} {C : Addr}
theorem kn__law_calls (D : Def0 K mg "_law_calls" (top 55)) (T : Txt K mg) (F__law_draw : Kn P w K mg base CX0 "_law_draw" 1 ["pool", "many"] [] spDraw) : Kn P w K mg base CX0 "_law_calls" 2 ["pool", "many"] [] spCalls := by
  obtain ⟨f, fd, F, m⟩ := D
  have sc_ : FnScope ["pool", "many", "own", "begin", "letters", "k"] ["pool", "many"] (defScope (top 55)) := ⟨rfl, rfl, rfl, by decide +kernel, rfl, by decide +kernel, by decide +kernel⟩
  refine kn_of F m (F.ok sc_ (fun vs H Q E h => ?_) (fun cdv A outer s H vs Q E hr h => ?_)) (F.bindsN fun _ _ _ _ _ _ us hl => match us, hl with | [_, _], _ => rfl)
  · obtain ⟨p, many, rfl, _⟩ := h; rfl
  · obtain ⟨p, many, rfl, hp, hm1, hm2, q⟩ := h
    refine ⟨_, PSs.nox (pss_cons (ps_set (i := 2) sc_.nd rfl (by first | exact Or.inl rfl | exact Or.inr rfl) (pe_lst (pa_cons pe_str (pa_cons pe_str (pa_cons pe_str (pa_cons pe_str (pa_cons pe_str (pa_cons pe_str (pa_cons pe_str (pa_cons pe_str (pa_cons pe_str (pa_cons pe_str (pa_cons pe_str (pa_cons pe_str pa_nil))))))))))))))
      (pss_cons (ps_set (i := 3) sc_.nd rfl (by first | exact Or.inl rfl | exact Or.inr rfl) (pe_own F__law_draw hr (by first | decide | omega | (simp only [Nat.add_eq]; omega)) pass0 (pa_cons (pv 0) (pa_cons pe_int pa_nil))))
      (pss_cons (ps_if (pt_cmpR op_eq (pe_own F__law_draw hr (by first | decide | omega | (simp only [Nat.add_eq]; omega)) pass0 (pa_cons (pv 0) (pa_cons pe_int pa_nil))) pe_int (nomark _)) (pss_one (ps_ret (pe_lc (own := [("k", 5)]) (g := gName 5) (by rfl) sc_.nd (pi_range1 (by rfl) T.z_range (pa_cons (pv 1) pa_nil)) (blkOk_by (N := ["pool", "many", "own", "begin", "letters", "k"]) (sc := defScope (top 55)) (by decide +kernel)) (fun _ _ _ _ _ => (pg_name (i := 5) sc_.nd rfl (by first | exact Or.inl rfl | exact Or.inr rfl))) (fun _ _ _ _ _ => pts_nil) (fun _ _ _ _ _ => (pe_ix (k_ixL (K := K)) (pv 2) (pe_op op_mod (pe_op op_add (pv 3) (pe_op op_mul pe_int (pv 5))) pe_int) (fun _ _ => rfl)))))) pss_nil)
      (pss_cons (ps_set (i := 4) sc_.nd rfl (by first | exact Or.inl rfl | exact Or.inr rfl) pe_str)
      (pss_one (ps_ret (pe_lc (own := [("k", 5)]) (g := gName 5) (by rfl) sc_.nd (pi_range1 (by rfl) T.z_range (pa_cons (pv 1) pa_nil)) (blkOk_by (N := ["pool", "many", "own", "begin", "letters", "k"]) (sc := defScope (top 55)) (by decide +kernel)) (fun _ _ _ _ _ => (pg_name (i := 5) sc_.nd rfl (by first | exact Or.inl rfl | exact Or.inr rfl))) (fun _ _ _ _ _ => pts_nil) (fun _ _ _ _ _ => (pe_op op_mul_str (pe_ix ix_str (pv 4) (pe_op op_mod (pe_op op_add (pv 3) (pe_op op_mul pe_int (pv 5))) pe_int) (fun _ _ => rfl)) (pe_ix (k_ixL (K := K)) (pe_lst (pa_cons pe_int (pa_cons pe_int (pa_cons pe_int (pa_cons pe_int pa_nil))))) (pe_op op_mod (pv 5) pe_int) (fun _ _ => rfl))))))))))), ?_⟩
    refine ⟨by show 12 ≤ sizeLine; decide, fun o ho => ?_⟩
    have e1 : Same H (upd H o (.lst (ownL.map V.str))) := same_new ho
    refine ⟨_, rfl, p, 12, rfl, e1 _ _ hp, by decide, by decide, fun b H2 hb0 hb1 e2 => ?_⟩
    obtain ⟨b, rfl⟩ : ∃ n : Nat, b = (n : Int) := ⟨b.toNat, by omega⟩
    have e12 := e1.trans e2
    refine ⟨_, rfl, p, 3, rfl, e12 _ _ hp, by decide, by decide, fun c H3 hc0 hc1 e3 => ⟨rfl, _, rfl, ?_⟩⟩
    have e13 := e12.trans e3
    have hown : SqL K H3 o (ownL.map V.str) := SqL.of ((e2.trans e3) _ _ upd_same)
    have hnn : many.toNat ≤ 12 := by omega
    refine ite2 (fun _ => ?_) (fun _ => ?_)
    · refine ⟨_, rfl, many, rfl, by omega, by omega, fun D hD => lc_ok walk_range (fun i y _ => y = .str (ownAt b i)) hD (Nat.lt_of_le_of_lt hnn (by decide)) (fun _ _ => trivial) (fun _ _ _ _ _ _ h => h) (fun _ _ _ _ h => by rw [h.1]; exact Same.refl _) ?_ ?_⟩
      · rintro i x H4 H' hi s1 ⟨rfl, rfl⟩ Q' k
        have hj : (b + 5 * i) % 12 < 12 := Nat.mod_lt _ (by decide)
        refine ⟨rfl, _, rfl, _, rfl, _, rfl, _, _, rfl, rfl, Or.inl ⟨by decide, by decide⟩, _, _, rfl, rfl, _, _, rfl, rfl, (by show (0 : Int) < 12; decide), o, _, _, .str (ownAt b i), rfl, rfl, Same.seq s1 hown, ?_, k _ _ (Same.refl _) rfl⟩
        rw [show ((b : Int) + 5 * (0 + (i : Int))) % 12 = (((b + 5 * i) % 12 : Nat) : Int) by omega]
        refine atI_nat ?_
        rw [List.getElem?_map, ownAt, List.getElem?_eq_getElem (show (b + 5 * i) % 12 < ownL.length from hj), List.getD_eq_getElem?_getD, List.getElem?_eq_getElem (show (b + 5 * i) % 12 < ownL.length from hj)]
        rfl
      · intro H4 acc s1 hacc hl hr
        have e : acc = ((List.range many.toNat).map (ownAt b)).map V.str := by
          rw [List.map_map]
          refine map_of (by simpa using hl) fun i y hy => ⟨i, ?_, hr i y hy⟩
          rw [List.getElem?_range]; have := (List.getElem?_eq_some_iff.mp hy).1; omega
        have ok := names_ok own_ok (b := b) (by omega) hnn
        exact q D _ H4 (by simp; omega) ok.1 ok.2 (e13.trans s1) (by rw [hacc, e])
    · refine ⟨_, rfl, many, rfl, by omega, by omega, fun D hD => lc_ok walk_range (fun i y _ => y = .str (letAt b i)) hD (Nat.lt_of_le_of_lt hnn (by decide)) (fun _ _ => trivial) (fun _ _ _ _ _ _ h => h) (fun _ _ _ _ h => by rw [h.1]; exact Same.refl _) ?_ ?_⟩
      · rintro i x H4 H' hi s1 ⟨rfl, rfl⟩ Q' k
        have hj : (b + 5 * i) % 26 < 26 := Nat.mod_lt _ (by decide)
        refine ⟨rfl, _, rfl, _, rfl, _, rfl, _, _, rfl, rfl, Or.inl ⟨by decide, by decide⟩, _, _, rfl, rfl, _, _, rfl, rfl, (by show (0 : Int) < 26; decide), _, _, 97 + (b + 5 * i) % 26, rfl, rfl, by decide, ?_, by show 4 ≤ sizeLine; decide, fun t ht => ?_⟩
        · rw [show ((b : Int) + 5 * (0 + (i : Int))) % 26 = (((b + 5 * i) % 26 : Nat) : Int) by omega]
          exact atI_nat (letters_at _ hj)
        · have hi4 : i % 4 < 4 := Nat.mod_lt _ (by decide)
          refine ⟨_, rfl, _, _, rfl, rfl, (by show (0 : Int) < 4; decide), t, _, _, .int (([1, 1, 2, 8] : List Int).getD (i % 4) 0), rfl, rfl, SqL.of upd_same, ?_, _, _, rfl, rfl, ?_, k _ _ (same_new ht) rfl⟩
          · rw [show (0 + (i : Int)) % 4 = ((i % 4 : Nat) : Int) by omega]
            refine atI_nat ?_
            generalize i % 4 = r at hi4
            match r, hi4 with
            | 0, _ => rfl
            | 1, _ => rfl
            | 2, _ => rfl
            | 3, _ => rfl
          · refine mul_small (by show 1 ≤ 1000; decide) ?_ ?_ <;>
            · generalize i % 4 = r at hi4
              match r, hi4 with
              | 0, _ => decide
              | 1, _ => decide
              | 2, _ => decide
              | 3, _ => decide
      · intro H4 acc s1 hacc hl hr
        have e : acc = ((List.range many.toNat).map (letAt b)).map V.str := by
          rw [List.map_map]
          refine map_of (by simpa using hl) fun i y hy => ⟨i, ?_, hr i y hy⟩
          rw [List.getElem?_range]; have := (List.getElem?_eq_some_iff.mp hy).1; omega
        have ok := names_ok let_ok (b := b) (by omega) hnn
        exact q D _ H4 (by simp; omega) ok.1 ok.2 (e13.trans s1) (by rw [hacc, e])
end
end Z
set_option Elab.async false
set_option linter.all false
set_option autoImplicit false
set_option maxRecDepth 100000
set_option maxHeartbeats 4000000
namespace Z
open PySem PySem.Spec PyProof.Rows L2
def scalD : PyData → Bool
  | .none => true | .bool _ => true | .int _ => true | .str _ => true | _ => false
def smallD : PyData → Prop
  | .int i => i.natAbs.log2 < 1920 ∧ (Str.ofString (toString i)).length ≤ 1000 ∧ PyData.strOk (Str.ofString (toString i)) = true ∧ i.natAbs < 2 ^ 44
  | .str z => z.length ≤ 40 ∧ PyData.strOk z = true
  | _ => True
theorem nameS_small {z : Str} (h : nameS z = true) : z.length ≤ 8 ∧ PyData.strOk z = true := by
  unfold nameS at h
  rw [Bool.and_eq_true, decide_eq_true_eq] at h
  refine ⟨h.1.2, ?_⟩
  unfold PyData.strOk
  rw [← Array.all_toList, List.all_eq_true]
  intro c hc
  have := List.all_eq_true.mp h.2 c hc
  simp at this ⊢
  omega
def toV : PyData → V
  | .bool b => .bl b
  | .int i => .int i
  | .str z => .str z
  | _ => .non
def smallB : PyData → Bool
  | .int i => decide (i.natAbs.log2 < 1920) && (decide ((Str.ofString (toString i)).length ≤ 1000) && (PyData.strOk (Str.ofString (toString i)) && decide (i.natAbs < 2 ^ 44)))
  | .str z => decide (z.length ≤ 40) && PyData.strOk z
  | _ => true
theorem small_of {d : PyData} (h : smallB d = true) : smallD d := by
  cases d <;> first | trivial | (simp only [smallB, Bool.and_eq_true, decide_eq_true_eq] at h; exact h)
def okB (k : Str) (d : PyData) : Bool := valueD k d && (scalD d && smallB d)
theorem toV_da {K : PySem.W.Frag} {H : Hp} {d : PyData} (h : scalD d = true) (h2 : smallD d) : Da K H (toV d) d := by
  cases d with
  | none => exact .non
  | bool b => exact .bl b
  | int i => exact .int i
  | str z => exact .str z (Nat.le_trans h2.1 (by decide))
  | _ => cases h
def wInts : List PyData := [.int 0, .int 1, .int 2, .int (-1), .int 3, .int 7, .int (-(10 ^ (12 : Int).toNat)), .int (10 ^ (13 : Int).toNat)]
def wTexts : List PyData := [.str "", .str "a", .str "b", .str "ab", .str "Rome", .str "), [a,b", .str "\"", .str "\\", .str "none", .str " "]
theorem wInts_ok : wInts.all (okB "int") = true := by decide +kernel
theorem wTexts_ok : wTexts.all (okB "text") = true := by decide +kernel
theorem ok_parts {k : Str} {d : PyData} (h : okB k d = true) : valueD k d = true ∧ scalD d = true ∧ smallD d := by
  unfold okB at h
  rw [Bool.and_eq_true, Bool.and_eq_true] at h
  exact ⟨h.1, h.2.1, small_of h.2.2⟩
theorem pick_at {L : List PyData} {k : Str} (h : L.all (okB k) = true) {d : Int} (h0 : 0 ≤ d) (h1 : d < L.length) : ∃ e, atI (L.map toV) d = some (toV e) ∧ valueD k e = true ∧ scalD e = true ∧ smallD e := by
  obtain ⟨n, rfl⟩ : ∃ n : Nat, d = (n : Int) := ⟨d.toNat, by omega⟩
  have hn : n < L.length := by omega
  exact ⟨L[n], atI_nat (by rw [List.getElem?_map, List.getElem?_eq_getElem hn]; rfl), ok_parts (List.all_eq_true.mp h _ (List.getElem_mem hn))⟩
def spWorth (K : PySem.W.Frag) : Sp := fun vs H Q _ => ∃ p k, vs = [.ref p, .str k] ∧ H p = some (Pool p) ∧ kindS k = true ∧ ∀ e H', valueD k e = true → scalD e = true → smallD e → Same H H' → Q (toV e) H'
theorem kindS_or {k : Str} (h : kindS k = true) : k = "int" ∨ k = "text" ∨ k = "bool" := by
  unfold kindS at h
  rw [Bool.or_eq_true, Bool.or_eq_true] at h
  rcases h with (h | h) | h
  · exact .inl (eq_of_beq h)
  · exact .inr (.inl (eq_of_beq h))
  · exact .inr (.inr (eq_of_beq h))
section
variable {P : Program} {w : World} {K : PySem.W.Frag} {mg : Str → Option Value} {base : Heap} {C : Addr}
theorem kn__law_worth (D : Def0 K mg "_law_worth" (top 56)) (T : Txt K mg) (F__law_draw : Kn P w K mg base CX0 "_law_draw" 1 ["pool", "many"] [] spDraw) : Kn P w K mg base CX0 "_law_worth" 2 ["pool", "kind_here"] [] (spWorth K) := by
  obtain ⟨f, fd, F, m⟩ := D
  have sc_ : FnScope ["pool", "kind_here"] ["pool", "kind_here"] (defScope (top 56)) := ⟨rfl, rfl, rfl, by decide +kernel, rfl, by decide +kernel, by decide +kernel⟩
  refine kn_of F m (F.ok sc_ (fun vs H Q E h => ?_) (fun cdv A outer s H vs Q E hr h => ?_)) (F.bindsN fun _ _ _ _ _ _ us hl => match us, hl with | [_, _], _ => rfl)
  · obtain ⟨p, k, rfl, _⟩ := h; rfl
  · obtain ⟨p, k, rfl, hp, hk, q⟩ := h
    refine ⟨_, PSs.nox (pss_cons (ps_if (pt_cmpR op_eq (pe_own F__law_draw hr (by first | decide | omega | (simp only [Nat.add_eq]; omega)) pass0 (pa_cons (pv 0) (pa_cons pe_int pa_nil))) pe_int (nomark _)) (pss_one (ps_ret pe_non)) pss_nil)
      (pss_cons (ps_if (pt_cmpR op_eq (pv 1) pe_str (nomark _)) (pss_one (ps_ret (pe_ix (k_ixL (K := K)) (pe_lst (pa_cons pe_int (pa_cons pe_int (pa_cons pe_int (pa_cons (pe_un un_neg pe_int) (pa_cons pe_int (pa_cons pe_int (pa_cons (pe_un un_neg (pe_op op_pow pe_int pe_int)) (pa_cons (pe_op op_pow pe_int pe_int) pa_nil))))))))) (pe_own F__law_draw hr (by first | decide | omega | (simp only [Nat.add_eq]; omega)) pass0 (pa_cons (pv 0) (pa_cons pe_int pa_nil))) (fun _ _ => rfl)))) pss_nil)
      (pss_cons (ps_if (pt_cmpR op_eq (pv 1) pe_str (nomark _)) (pss_one (ps_ret (pe_ix (k_ixL (K := K)) (pe_lst (pa_cons pe_str (pa_cons pe_str (pa_cons pe_str (pa_cons pe_str (pa_cons pe_str (pa_cons pe_str (pa_cons pe_str (pa_cons pe_str (pa_cons pe_str (pa_cons pe_str pa_nil))))))))))) (pe_own F__law_draw hr (by first | decide | omega | (simp only [Nat.add_eq]; omega)) pass0 (pa_cons (pv 0) (pa_cons pe_int pa_nil))) (fun _ _ => rfl)))) pss_nil)
      (pss_one (ps_ret (pe_cmpR op_eq (pe_own F__law_draw hr (by first | decide | omega | (simp only [Nat.add_eq]; omega)) pass0 (pa_cons (pv 0) (pa_cons pe_int pa_nil))) pe_int (nomark _))))))), ?_⟩
    refine ⟨_, rfl, p, 5, rfl, hp, by decide, by decide, fun c H1 hc0 hc1 e1 => ⟨rfl, _, rfl, ?_⟩⟩
    refine ite2 (fun _ => q .none _ rfl rfl trivial e1) (fun _ => ?_)
    refine ⟨_, rfl, rfl, _, rfl, ?_⟩
    by_cases h1 : k = "int"
    · subst h1
      rw [decide_eq_true rfl]
      refine iteT ?_
      refine ⟨_, rfl, _, _, rfl, rfl, ⟨by decide, by decide, by decide⟩, _, rfl, _, _, rfl, rfl, ⟨by decide, by decide, by decide⟩, by show 8 ≤ sizeLine; decide, fun t ht => ?_⟩
      have e2 : Same H1 (upd H1 t (.lst (wInts.map toV))) := same_new ht
      refine ⟨_, rfl, p, 8, rfl, e2 _ _ (e1 _ _ hp), by decide, by decide, fun d H3 hd0 hd1 e3 => ?_⟩
      obtain ⟨e, ha, hv, hs, hz⟩ := pick_at wInts_ok hd0 hd1
      exact ⟨t, _, d, _, rfl, rfl, SqL.of (e3 _ _ upd_same), ha, q e _ hv hs hz ((e1.trans e2).trans e3)⟩
    · rw [decide_eq_false (fun c => h1 (V.str.inj c))]
      refine iteF ?_
      refine ⟨_, rfl, rfl, _, rfl, ?_⟩
      by_cases h2 : k = "text"
      · subst h2
        rw [decide_eq_true rfl]
        refine iteT ?_
        refine ⟨by show 10 ≤ sizeLine; decide, fun t ht => ?_⟩
        have e2 : Same H1 (upd H1 t (.lst (wTexts.map toV))) := same_new ht
        refine ⟨_, rfl, p, 10, rfl, e2 _ _ (e1 _ _ hp), by decide, by decide, fun d H3 hd0 hd1 e3 => ?_⟩
        obtain ⟨e, ha, hv, hs, hz⟩ := pick_at wTexts_ok hd0 hd1
        exact ⟨t, _, d, _, rfl, rfl, SqL.of (e3 _ _ upd_same), ha, q e _ hv hs hz ((e1.trans e2).trans e3)⟩
      · rw [decide_eq_false (fun c => h2 (V.str.inj c))]
        refine iteF ?_
        refine ⟨_, rfl, p, 2, rfl, e1 _ _ hp, by decide, by decide, fun d H3 hd0 hd1 e3 => ⟨rfl, ?_⟩⟩
        exact q (.bool (decide (V.int d = V.int 0))) _ (by simp only [valueD]; rw [if_neg h1, if_neg h2]; rfl) rfl trivial (e1.trans e3)
end
end Z
set_option Elab.async false
set_option linter.all false
set_option autoImplicit false
set_option maxRecDepth 100000
set_option maxHeartbeats 4000000
namespace Z
open PySem PySem.Spec PyProof.Rows L2
theorem strs_of {Q : Str → Prop} : ∀ {acc : List V}, (∀ (i : Nat) y, acc[i]? = some y → ∃ z, y = .str z ∧ Q z) → ∃ l : List Str, acc = l.map V.str ∧ ∀ z ∈ l, Q z
  | [], _ => ⟨[], rfl, fun z h => by cases h⟩
  | a :: acc, h => by
    obtain ⟨z, hz, hq⟩ := h 0 a rfl
    obtain ⟨l, e, hl⟩ := strs_of (acc := acc) fun i y hy => h (i + 1) y hy
    exact ⟨z :: l, by rw [hz, e]; rfl, fun y hy => by
      rcases List.mem_cons.mp hy with rfl | hy
      · exact hq
      · exact hl y hy⟩
def kindL : List Str := ["int", "text", "bool", "int", "text"]
def spHeads (K : PySem.W.Frag) : Sp := fun vs H Q _ => ∃ p l, ∃ names : List Str, vs = [.ref p, .ref l] ∧ H p = some (Pool p) ∧ H l = some (.lst (names.map V.str)) ∧ names ≠ [] ∧ names.length ≤ 12 ∧ (∀ z ∈ names, nameS z = true) ∧
  ∀ v (cols : List (Str × Str)) H', cols.map (·.1) = names → (∀ c ∈ cols, kindS c.2 = true) → Same H H' → Da K H' v (.tuple (colsD cols)) → BareT H' v → Q v H'
section
variable {P : Program} {w : World} {K : PySem.W.Frag} {mg : Str → Option Value} {base : Heap} {C : Addr}
theorem kn__law_heads (D : Def0 K mg "_law_heads" (top 57)) (T : Txt K mg) (F__law_draw : Kn P w K mg base CX0 "_law_draw" 1 ["pool", "many"] [] spDraw) : Kn P w K mg base CX0 "_law_heads" 2 ["pool", "calls"] [] (spHeads K) := by
  obtain ⟨f, fd, F, m⟩ := D
  have sc_ : FnScope ["pool", "calls", "kinds", "call", "k"] ["pool", "calls"] (defScope (top 57)) := ⟨rfl, rfl, rfl, by decide +kernel, rfl, by decide +kernel, by decide +kernel⟩
  refine kn_of F m (F.ok sc_ (fun vs H Q E h => ?_) (fun cdv A outer s H vs Q E hr h => ?_)) (F.bindsN fun _ _ _ _ _ _ us hl => match us, hl with | [_, _], _ => rfl)
  · obtain ⟨p, l, names, rfl, _⟩ := h; rfl
  · obtain ⟨p, l, names, rfl, hp, hl, hne, hn, hok, q⟩ := h
    refine ⟨_, PSs.nox (pss_cons (ps_set (i := 2) sc_.nd rfl (by first | exact Or.inl rfl | exact Or.inr rfl) (pe_op op_cat (pe_lst (pa_cons pe_str pa_nil)) (pe_lc (own := [("call", 3)]) (g := gName 3) (by rfl) sc_.nd (k_list (K := K) (pe_slice (k_slL (K := K)) (pv 1) (po_some pe_int) po_none)) (blkOk_by (N := ["pool", "calls", "kinds", "call", "k"]) (sc := defScope (top 57)) (by decide +kernel)) (fun _ _ _ _ _ => (pg_name (i := 3) sc_.nd rfl (by first | exact Or.inl rfl | exact Or.inr rfl))) (fun _ _ _ _ _ => pts_nil) (fun _ _ _ _ _ => (pe_ix (k_ixL (K := K)) (pe_lst (pa_cons pe_str (pa_cons pe_str (pa_cons pe_str (pa_cons pe_str (pa_cons pe_str pa_nil)))))) (pe_own F__law_draw hr (by first | decide | omega | (simp only [Nat.add_eq]; omega)) pass0 (pa_cons (pv 0) (pa_cons pe_int pa_nil))) (fun _ _ => rfl))))))
      (pss_one (ps_ret (pe_callTy (k_tupB (K := K)) (by rfl) T.z_tuple (by decide +kernel) (pa_cons (pe_lc (own := [("k", 4)]) (g := gName 4) (by rfl) sc_.nd (pi_range1 (by rfl) T.z_range (pa_cons (pe_callB (k_len (K := K)) (by rfl) T.z_len (by decide +kernel) (pa_cons (pv 1) pa_nil)) pa_nil)) (blkOk_by (N := ["pool", "calls", "kinds", "call", "k"]) (sc := defScope (top 57)) (by decide +kernel)) (fun _ _ _ _ _ => (pg_name (i := 4) sc_.nd rfl (by first | exact Or.inl rfl | exact Or.inr rfl))) (fun _ _ _ _ _ => pts_nil) (fun _ _ _ _ _ => (pe_tup (pa_cons (pe_ix (k_ixL (K := K)) (pv 1) (pv 4) (fun _ _ => rfl)) (pa_cons (pe_ix (k_ixL (K := K)) (pv 2) (pv 4) (fun _ _ => rfl)) pa_nil))))) pa_nil))))), ?_⟩
    refine ⟨by show 1 ≤ sizeLine; decide, fun a ha => ?_⟩
    have e1 : Same H (upd H a (.lst [.str "int"])) := same_new ha
    refine ⟨_, rfl, _, rfl, l, _, rfl, SqL.of (e1 _ _ hl), fun b hb => ⟨b, rfl, ⟨_, SqL.of upd_same⟩, fun D hD => ?_⟩⟩
    have e2 := e1.trans (same_new hb (o := .lst (cutV (names.map V.str) (some 1) none)))
    have hcut : (cutV (names.map V.str) (some 1) none).length + 1 = names.length := by
      have : names.length ≠ 0 := fun e => hne (List.eq_nil_of_length_eq_zero e)
      simp [cutV, HT.sIx]
      omega
    refine lc_ok (walk_list (K := K) (a := b) (xs := cutV (names.map V.str) (some 1) none)) (fun i y _ => ∃ z, y = .str z ∧ kindS z = true) hD (Nat.lt_of_le_of_lt (show _ ≤ 12 by omega) (by decide)) (fun H1 e => Same.seq e (SqL.of upd_same)) (fun _ _ _ _ _ _ h => h) (fun _ _ _ _ h => by rw [h.1]; exact Same.refl _) ?_ ?_
    · rintro i x H1 H' hi s1 ⟨rfl, hx⟩ Q' k
      refine ⟨rfl, by show 5 ≤ sizeLine; decide, fun t ht => ?_⟩
      have e3 : Same H' (upd H' t (.lst (kindL.map V.str))) := same_new ht
      refine ⟨_, rfl, p, 5, rfl, (e2.trans (s1.trans e3)) _ _ hp, by decide, by decide, fun d H3 hd0 hd1 e4 => ?_⟩
      obtain ⟨n, rfl⟩ : ∃ n : Nat, d = (n : Int) := ⟨d.toNat, by omega⟩
      have hn5 : n < kindL.length := by show n < 5; omega
      refine ⟨t, _, _, .str kindL[n], rfl, rfl, SqL.of (e4 _ _ upd_same), atI_nat (by show (kindL.map V.str)[n]? = _; rw [List.getElem?_map, List.getElem?_eq_getElem hn5]; rfl), k _ _ (e3.trans e4) ⟨_, rfl, ?_⟩⟩
      have : kindL.all kindS = true := by decide +kernel
      exact List.all_eq_true.mp this _ (List.getElem_mem hn5)
    · intro H1 acc s1 hacc hla hra
      obtain ⟨kl, e, hkl⟩ := strs_of hra
      subst e
      rw [List.length_map] at hla
      have e3 := e2.trans s1
      have ha1 : H1 a = some (.lst [.str "int"]) := s1 _ _ (by rw [upd_ne (ne_of_none upd_same hb)]; exact upd_same)
      refine ⟨a, D, _, _, rfl, rfl, ha1, hacc, Nat.le_trans (show 1 + (kl.map V.str).length ≤ 12 by rw [List.length_map]; omega) (by decide), fun kk hkk => ?_⟩
      have e4 := e3.trans (same_new hkk (o := .lst ([V.str "int"] ++ kl.map V.str)))
      refine ⟨_, rfl, l, _, rfl, .inl (SqL.of (e4 _ _ hl)), _, rfl, by omega, by rw [List.length_map]; omega, fun D2 hD2 => ?_⟩
      have hks : ((("int" : Str)) :: kl).length = names.length := by simp; omega
      have hkk2 : SqL K (upd H1 kk (.lst ([V.str "int"] ++ kl.map V.str))) kk (((("int" : Str)) :: kl).map V.str) := SqL.of upd_same
      refine lc_ok walk_range (fun i y H => ∃ t n k, y = .ref t ∧ names[i]? = some n ∧ ((("int" : Str)) :: kl)[i]? = some k ∧ SqT K H t [.str n, .str k]) hD2 (by rw [List.length_map]; exact Nat.lt_of_le_of_lt (show _ ≤ 12 by omega) (by decide)) (fun _ _ => trivial) (fun i y H H' _ e ⟨t, n, k, h1, h2, h3, h4⟩ => ⟨t, n, k, h1, h2, h3, sameT_t e h4⟩) (fun _ _ _ _ h => by rw [h.1]; exact Same.refl _) ?_ ?_
      · rintro i x H2 H' hi s2 ⟨rfl, rfl⟩ Q' k
        rw [List.length_map] at hi
        have hi' : i < names.length := by omega
        have h1 : names[i]? = some names[i] := List.getElem?_eq_getElem hi'
        have h2 : ((("int" : Str)) :: kl)[i]? = some (((("int" : Str)) :: kl)[i]'(by omega)) := List.getElem?_eq_getElem (by omega)
        refine ⟨rfl, _, rfl, _, rfl, l, _, _, .str names[i], rfl, rfl, SqL.of (s2 _ _ (e4 _ _ hl)), ?_, _, rfl, _, rfl, kk, _, _, .str (((("int" : Str)) :: kl)[i]'(by omega)), rfl, rfl, Same.seq s2 hkk2, ?_, by show 2 ≤ sizeLine; decide, fun t ht => k _ _ (same_new ht) ⟨t, _, _, rfl, h1, h2, SqT.of upd_same⟩⟩
        · rw [show (0 : Int) + (i : Int) = (i : Int) by omega]
          exact atI_nat (by rw [List.getElem?_map, h1]; rfl)
        · rw [show (0 : Int) + (i : Int) = (i : Int) by omega]
          exact atI_nat (by rw [List.getElem?_map, h2]; rfl)
      · intro H2 acc s2 hacc2 hl2 hr2
        rw [List.length_map] at hl2
        have hl2' : acc.length = names.length := by omega
        refine ⟨D2, acc, rfl, SqL.of hacc2, fun t o ht ho => ?_⟩
        have e5 := same_new ht (o := .frz o (.tup acc))
        refine q (.ref t) (names.zip ((("int" : Str)) :: kl)) _ (List.map_fst_zip (by omega)) (fun c hc => ?_) ((e4.trans s2).trans e5) (.tup (sqT_frz upd_same) (DaL.of (by rw [colsD, List.length_map, List.length_zip]; omega) fun i v d hv hd => ?_)) ⟨_, _, _, rfl, upd_same, ho⟩
        · have h2 := (List.of_mem_zip (a := c.1) (b := c.2) hc).2
          rcases List.mem_cons.mp h2 with h | h
          · rw [h]; decide +kernel
          · exact hkl _ h
        · obtain ⟨t', n, k, rfl, h1, h2, h3⟩ := hr2 i v hv
          rw [colsD, List.getElem?_map, Option.map_eq_some_iff] at hd
          obtain ⟨c, hc, rfl⟩ := hd
          rw [List.getElem?_zip_eq_some] at hc
          rw [h1, h2] at hc
          obtain ⟨q1, q2⟩ := hc
          cases q1; cases q2
          have hk2 : kindS c.2 = true := by
            rcases List.mem_cons.mp (List.mem_of_getElem? h2) with h | h
            · rw [h]; decide +kernel
            · exact hkl _ h
          have hk3 : c.2.length ≤ 1000000 := by
            rcases kindS_or hk2 with h | h | h <;> rw [h] <;> decide +kernel
          exact .tup (same_t e5 h3) (.cons (.str _ (Nat.le_trans (nameS_small (hok _ (List.mem_of_getElem? h1))).1 (by decide))) (.cons (.str _ hk3) .nil))
end
end Z
set_option Elab.async false
set_option linter.all false
set_option maxRecDepth 100000
set_option maxHeartbeats 4000000
/-! expressions as data -/
namespace Z
open PySem PySem.Spec PyProof.Rows L2
inductive Ex where
  | col (n : Str)
  | val (k : Str) (v : PyData)
  | one (w : Str) (x : Ex)
  | two (w : Str) (x y : Ex)
  | ife (x y z : Ex)
def Ex.d : Ex → PyData
  | .col n => .tuple [.str "col", .str n]
  | .val k v => .tuple [.str "value", .str k, v]
  | .one w x => .tuple [.str w, x.d]
  | .two w x y => .tuple [.str w, x.d, y.d]
  | .ife x y z => .tuple [.str "if", x.d, y.d, z.d]
def Ex.word : Ex → Str
  | .col _ => "col"
  | .val _ _ => "value"
  | .one w _ => w
  | .two w _ _ => w
  | .ife _ _ _ => "if"
def Ex.parts : Ex → List Ex
  | .col _ => []
  | .val _ _ => []
  | .one _ x => [x]
  | .two _ x y => [x, y]
  | .ife x y z => [x, y, z]
def Ex.isOp : Ex → Bool
  | .col _ => false
  | .val _ _ => false
  | _ => true
theorem Ex.op_d {e : Ex} (h : e.isOp = true) : e.d = .tuple (.str e.word :: e.parts.map Ex.d) := by
  cases e <;> first | rfl | cases h
def Ex.nodes : Ex → Nat
  | .col _ => 1
  | .val _ _ => 1
  | .one _ x => 1 + x.nodes
  | .two _ x y => 1 + (x.nodes + y.nodes)
  | .ife x y z => 1 + (x.nodes + y.nodes + z.nodes)
def Ex.levels : Ex → Nat
  | .col _ => 1
  | .val _ _ => 1
  | .one _ x => 1 + x.levels
  | .two _ x y => 1 + max x.levels y.levels
  | .ife x y z => 1 + max x.levels (max y.levels z.levels)
theorem Ex.nodes_pos (e : Ex) : 1 ≤ e.nodes := by cases e <;> simp only [Ex.nodes] <;> omega
theorem Ex.levels_pos (e : Ex) : 1 ≤ e.levels := by cases e <;> simp only [Ex.levels] <;> omega
theorem Ex.nodes_parts (e : Ex) : e.nodes = 1 + (e.parts.map Ex.nodes).sum := by
  cases e <;> simp [Ex.nodes, Ex.parts]
  all_goals omega
theorem Ex.level_part {e x : Ex} (h : x ∈ e.parts) : x.levels + 1 ≤ e.levels := by
  cases e <;> simp [Ex.parts] at h
  · subst h; simp only [Ex.levels]; omega
  · rcases h with rfl | rfl <;> simp only [Ex.levels] <;> omega
  · rcases h with rfl | rfl | rfl <;> simp only [Ex.levels] <;> omega
theorem Ex.parts_le (e : Ex) : e.parts.length ≤ 3 := by cases e <;> simp [Ex.parts]
def onesL : List Str := ["size", "not", "there"]
def twosL : List Str := ["add", "sub", "mul", "div", "mod", "glue", "eq", "lt", "le", "and", "or", "else"]
def flatD : PyData → Bool
  | .none => true
  | .bool _ => true
  | .int _ => true
  | .str z => decide (z.length ≤ 1000000)
  | _ => false
/-- of one of the forms, itself and its parts -/
def Ex.wf : Ex → Bool
  | .col n => nameS n
  | .val k v => kindS k && (valueD k v && flatD v)
  | .one w x => onesL.contains w && x.wf
  | .two w x y => twosL.contains w && (x.wf && y.wf)
  | .ife x y z => x.wf && (y.wf && z.wf)
theorem Ex.wf_part {e x : Ex} (h : e.wf = true) (hx : x ∈ e.parts) : x.wf = true := by
  cases e <;> simp [Ex.parts] at hx <;> simp only [Ex.wf, Bool.and_eq_true] at h
  · subst hx; exact h.2
  · rcases hx with rfl | rfl
    · exact h.2.1
    · exact h.2.2
  · rcases hx with rfl | rfl | rfl
    · exact h.1
    · exact h.2.1
    · exact h.2.2
theorem flat_pure {d : PyData} (h : flatD d = true) : pureD d = true := by cases d <;> first | rfl | cases h
theorem Ex.pure : ∀ (e : Ex), e.wf = true → pureD e.d = true
  | .col n, _ => rfl
  | .val k v, h => by
    simp only [Ex.wf, Bool.and_eq_true] at h
    simp [Ex.d, pureD, pureD.pureL, flat_pure h.2.2]
  | .one w x, h => by
    simp only [Ex.wf, Bool.and_eq_true] at h
    simp [Ex.d, pureD, pureD.pureL, Ex.pure x h.2]
  | .two w x y, h => by
    simp only [Ex.wf, Bool.and_eq_true] at h
    simp [Ex.d, pureD, pureD.pureL, Ex.pure x h.2.1, Ex.pure y h.2.2]
  | .ife x y z, h => by
    simp only [Ex.wf, Bool.and_eq_true] at h
    simp [Ex.d, pureD, pureD.pureL, Ex.pure x h.1, Ex.pure y h.2.1, Ex.pure z h.2.2]
/-! the table of the forms -/
def exTab : List (Str × List Str) := [("col", ["name"]), ("value", ["kind", "constant"]), ("add", ["part", "part"]), ("sub", ["part", "part"]), ("mul", ["part", "part"]), ("div", ["part", "part"]), ("mod", ["part", "part"]), ("glue", ["part", "part"]), ("size", ["part"]),
  ("eq", ["part", "part"]), ("lt", ["part", "part"]), ("le", ["part", "part"]), ("and", ["part", "part"]), ("or", ["part", "part"]), ("not", ["part"]), ("there", ["part"]), ("if", ["part", "part", "part"]), ("else", ["part", "part"])]
def Ex.fields : Ex → List Str
  | .col _ => ["name"]
  | .val _ _ => ["kind", "constant"]
  | .one _ _ => ["part"]
  | .two _ _ _ => ["part", "part"]
  | .ife _ _ _ => ["part", "part", "part"]
def Ex.items : Ex → List PyData
  | .col n => [.str n]
  | .val k v => [.str k, v]
  | .one _ x => [x.d]
  | .two _ x y => [x.d, y.d]
  | .ife x y z => [x.d, y.d, z.d]
theorem Ex.d_items (e : Ex) : e.d = .tuple (.str e.word :: e.items) := by cases e <;> rfl
theorem Ex.items_fields (e : Ex) : e.fields.length = e.items.length := by cases e <;> rfl
theorem Ex.fields_tab {e : Ex} (h : e.wf = true) : (e.word, e.fields) ∈ exTab := by
  cases e with
  | col n => simp [exTab, Ex.word, Ex.fields]
  | val k v => simp [exTab, Ex.word, Ex.fields]
  | one w x =>
    simp only [Ex.wf, Bool.and_eq_true] at h
    have h1 : w ∈ onesL := by simpa using h.1
    simp only [onesL, List.mem_cons, List.not_mem_nil, or_false] at h1
    rcases h1 with rfl | rfl | rfl <;> simp [exTab, Ex.word, Ex.fields]
  | two w x y =>
    simp only [Ex.wf, Bool.and_eq_true] at h
    have h1 : w ∈ twosL := by simpa using h.1
    simp only [twosL, List.mem_cons, List.not_mem_nil, or_false] at h1
    rcases h1 with rfl | rfl | rfl | rfl | rfl | rfl | rfl | rfl | rfl | rfl | rfl | rfl <;> simp [exTab, Ex.word, Ex.fields]
  | ife x y z => simp [exTab, Ex.word, Ex.fields]
/-- what may stand in a field of an expression -/
def fieldOk (f : Str) (d : PyData) : Prop := (f = "name" ∧ nameD d = true) ∨ (f = "kind" ∧ kindD d = true) ∨ f = "part" ∨ f = "constant"
theorem Ex.fieldOk {e : Ex} (h : e.wf = true) {i : Nat} {f : Str} {d : PyData} (hf : e.fields[i]? = some f) (hd : e.items[i]? = some d) : fieldOk f d := by
  cases e with
  | col n =>
    match i, hf, hd with
    | 0, hf, hd => simp [Ex.fields] at hf; simp [Ex.items] at hd; subst hf hd; exact .inl ⟨rfl, h⟩
    | _ + 1, hf, _ => simp [Ex.fields] at hf
  | val k v =>
    simp only [Ex.wf, Bool.and_eq_true] at h
    match i, hf, hd with
    | 0, hf, hd => simp [Ex.fields] at hf; simp [Ex.items] at hd; subst hf hd; exact .inr (.inl ⟨rfl, h.1⟩)
    | 1, hf, hd => simp [Ex.fields] at hf; subst hf; exact .inr (.inr (.inr rfl))
    | _ + 2, hf, _ => simp [Ex.fields] at hf
  | one w x =>
    have : f = "part" := by have := List.mem_of_getElem? hf; simpa [Ex.fields] using this
    exact .inr (.inr (.inl this))
  | two w x y =>
    have : f = "part" := by have := List.mem_of_getElem? hf; simpa [Ex.fields] using this
    exact .inr (.inr (.inl this))
  | ife x y z =>
    have : f = "part" := by have := List.mem_of_getElem? hf; simpa [Ex.fields] using this
    exact .inr (.inr (.inl this))
/-- the fields that are parts, with what stands there -/
theorem Ex.parts_of (e : Ex) : ((List.range e.fields.length).filter fun i => e.fields[i]? == some ("part" : Str)).map (fun i => e.items[i]?) = e.parts.map fun x => some x.d := by
  cases e <;> rfl
/-! kinds -/
def partKinds : List (Str × List Str) := [("add", ["int", "int"]), ("sub", ["int", "int"]), ("mul", ["int", "int"]), ("div", ["int", "int"]), ("mod", ["int", "int"]), ("glue", ["text", "text"]), ("size", ["text"]), ("eq", ["any", "any"]), ("lt", ["any", "any"]), ("le", ["any", "any"]),
  ("and", ["bool", "bool"]), ("or", ["bool", "bool"]), ("not", ["bool"]), ("there", ["any"]), ("if", ["bool", "any", "any"]), ("else", ["any", "any"])]
def ownKinds : List (Str × Str) := [("add", "int"), ("sub", "int"), ("mul", "int"), ("div", "int"), ("mod", "int"), ("glue", "text"), ("size", "int"), ("eq", "bool"), ("lt", "bool"), ("le", "bool"), ("and", "bool"), ("or", "bool"), ("not", "bool"), ("there", "bool"), ("if", "any"), ("else", "any")]
def wantK (w : Str) (last : Str) : List Str := ((partKinds.lookup w).getD []).map fun (k : Str) => if k = "any" then last else k
def ownK (w : Str) (last : Str) : Str := if (ownKinds.lookup w).getD "" = "any" then last else (ownKinds.lookup w).getD ""
/-- the kind of an operation of parts of these kinds, or none -/
def kindB (w : Str) (ks : List Str) : Option Str := if ks = wantK w (ks.getLastD "") then some (ownK w (ks.getLastD "")) else none
def kindE (f : Str → Option Str) : Ex → Option Str
  | .col n => f n
  | .val k _ => some k
  | .one w x => (kindE f x).bind fun a => kindB w [a]
  | .two w x y => (kindE f x).bind fun a => (kindE f y).bind fun b => kindB w [a, b]
  | .ife x y z => (kindE f x).bind fun a => (kindE f y).bind fun b => (kindE f z).bind fun c => kindB "if" [a, b, c]
/-- an operation that has a kind: its parts have kinds, which it wants -/
theorem kindE_op {f : Str → Option Str} {e : Ex} {k : Str} (h : e.isOp = true) (hk : kindE f e = some k) : ∃ ks : List Str, e.parts.map (kindE f) = ks.map some ∧ ks ≠ [] ∧ kindB e.word ks = some k := by
  cases e with
  | col n => cases h
  | val a b => cases h
  | one w x =>
    simp only [kindE, Option.bind_eq_some_iff] at hk
    obtain ⟨a, ha, hb⟩ := hk
    exact ⟨[a], by simp [Ex.parts, ha], by simp, hb⟩
  | two w x y =>
    simp only [kindE, Option.bind_eq_some_iff] at hk
    obtain ⟨a, ha, b, hb, hc⟩ := hk
    exact ⟨[a, b], by simp [Ex.parts, ha, hb], by simp, hc⟩
  | ife x y z =>
    simp only [kindE, Option.bind_eq_some_iff] at hk
    obtain ⟨a, ha, b, hb, c, hc, hd⟩ := hk
    exact ⟨[a, b, c], by simp [Ex.parts, ha, hb, hc], by simp, hd⟩
theorem Ex.op_tab {e : Ex} (h : e.wf = true) (ho : e.isOp = true) : e.word ∈ partKinds.map (·.1) ∧ ¬ e.word = "col" ∧ ¬ e.word = "value" := by
  cases e with
  | col n => cases ho
  | val k v => cases ho
  | one w x =>
    simp only [Ex.wf, Bool.and_eq_true] at h
    have h1 : w ∈ onesL := by simpa using h.1
    have : (onesL.all fun w => (partKinds.map (·.1)).contains w && (!(w == "col") && !(w == "value"))) = true := by decide +kernel
    have := List.all_eq_true.mp this w h1
    simp only [Bool.and_eq_true, Bool.not_eq_true', beq_eq_false_iff_ne] at this
    exact ⟨by show w ∈ _; simpa using this.1, this.2.1, this.2.2⟩
  | two w x y =>
    simp only [Ex.wf, Bool.and_eq_true] at h
    have h1 : w ∈ twosL := by simpa using h.1
    have : (twosL.all fun w => (partKinds.map (·.1)).contains w && (!(w == "col") && !(w == "value"))) = true := by decide +kernel
    have := List.all_eq_true.mp this w h1
    simp only [Bool.and_eq_true, Bool.not_eq_true', beq_eq_false_iff_ne] at this
    exact ⟨by show w ∈ _; simpa using this.1, this.2.1, this.2.2⟩
  | ife x y z => exact ⟨(by decide +kernel : ("if" : Str) ∈ partKinds.map (·.1)), (by decide +kernel : ¬ ("if" : Str) = "col"), (by decide +kernel : ¬ ("if" : Str) = "value")⟩
end Z
set_option Elab.async false
set_option linter.all false
set_option maxRecDepth 100000
set_option maxHeartbeats 4000000
/-! comparisons of data -/
namespace Z
open PySem PySem.Spec PyProof.Rows L2
theorem shaped_of {d : PyData} (h : d.canLay0 = true) (h2 : d.depth ≤ 64) : SeqAt.shaped d = true := by
  unfold SeqAt.shaped; rw [h, decide_eq_true h2]; rfl
theorem dp_strs {K : PySem.W.Frag} {H : Hp} {a : Addr} {ss : List Str} (h : SqL K H a (ss.map V.str)) : Dp K H (.ref a) (.list (ss.map PyData.str)) := by
  refine .lst h ?_
  clear h
  induction ss with
  | nil => exact .nil
  | cons z ss ih => exact .cons (.str z) ih
theorem shaped_strs {ss : List Str} (h : ∀ z ∈ ss, PyData.strOk z = true) : SeqAt.shaped (.list (ss.map PyData.str)) = true := by
  have : PyData.canLayAll0 (ss.map PyData.str) = true ∧ PyData.depthAll (ss.map PyData.str) ≤ 1 := by
    induction ss with
    | nil => simp [PyData.canLayAll0, PyData.depthAll]
    | cons z ss ih =>
      have ih := ih fun y hy => h y (List.mem_cons_of_mem _ hy)
      have h1 := h z (List.mem_cons_self ..)
      simp only [List.map_cons, PyData.canLayAll0, PyData.depthAll, PyData.canLay0, PyData.depth, h1, Bool.and_eq_true]
      exact ⟨⟨trivial, ih.1⟩, by omega⟩
  exact shaped_of (by simpa [PyData.canLay0] using this.1) (by simp only [PyData.depth]; omega)
mutual
theorem Da.dp {K : PySem.W.Frag} {H : Hp} : ∀ {v : V} {d : PyData}, d.canLay0 = true → Da K H v d → Dp K H v d
  | _, _, _, .non => .non
  | _, _, _, .bl b => .bl b
  | _, _, _, .int i => .int i
  | _, _, _, .str x _ => .str x
  | _, _, p, .lst h t => .lst h (DaL.dp (by simpa [PyData.canLay0] using p) t)
  | _, _, p, .tup h t => .tup h (DaL.dp (by simpa [PyData.canLay0] using p) t)
  | _, _, p, .dic h => by simp [PyData.canLay0] at p
theorem DaL.dp {K : PySem.W.Frag} {H : Hp} : ∀ {vs : List V} {ds : List PyData}, PyData.canLayAll0 ds = true → DaL K H vs ds → DpAll K H vs ds
  | _, _, _, .nil => .nil
  | _, _, p, .cons h t => by
    simp only [PyData.canLayAll0, Bool.and_eq_true] at p
    exact .cons (Da.dp p.1 h) (DaL.dp p.2 t)
end
theorem shaped_lay {d : PyData} (h : SeqAt.shaped d = true) : d.canLay0 = true := by
  unfold SeqAt.shaped at h
  rw [Bool.and_eq_true] at h
  exact h.1
theorem neD_go {K : PySem.W.Frag} {H : Hp} {x y : V} {d e : PyData} {Q : VK} (hx : Da K H x d) (hy : Da K H y e) (sx : SeqAt.shaped d = true) (sy : SeqAt.shaped e = true) (q : Q (.bl (!PyData.eqv d e)) H) : rNeD K x y H Q :=
  ⟨d, e, hx.dp (shaped_lay sx), hy.dp (shaped_lay sy), sx, sy, q⟩
theorem eqD_go {K : PySem.W.Frag} {H : Hp} {x y : V} {d e : PyData} {Q : VK} (hx : Da K H x d) (hy : Da K H y e) (sx : SeqAt.shaped d = true) (sy : SeqAt.shaped e = true) (q : Q (.bl (PyData.eqv d e)) H) : rEqD K x y H Q :=
  ⟨d, e, hx.dp (shaped_lay sx), hy.dp (shaped_lay sy), sx, sy, q⟩
theorem eqv_strs : ∀ (a b : List Str), PyData.eqv (.list (a.map PyData.str)) (.list (b.map PyData.str)) = decide (a = b) := by
  have key : ∀ (a b : List Str), PyData.eqvAll (a.map PyData.str) (b.map PyData.str) = decide (a = b) := by
    intro a
    induction a with
    | nil => intro b; cases b <;> simp [PyData.eqvAll]
    | cons x a ih =>
      intro b
      cases b with
      | nil => simp [PyData.eqvAll]
      | cons y b =>
        simp only [List.map_cons, PyData.eqvAll, PyData.eqv, ih]
        by_cases h1 : x = y
        · subst h1
          by_cases h2 : a = b
          · subst h2; simp
          · simp [h2]
        · simp [h1]
  intro a b
  simp only [PyData.eqv, key]
theorem da_strs {K : PySem.W.Frag} {H : Hp} : ∀ {ss : List Str}, (∀ z ∈ ss, z.length ≤ 1000000) → DaL K H (ss.map V.str) (ss.map PyData.str)
  | [], _ => .nil
  | z :: ss, h => .cons (.str z (h z (List.mem_cons_self ..))) (da_strs fun y hy => h y (List.mem_cons_of_mem _ hy))
theorem kind_ok {k : Str} (h : kindS k = true) : k.length ≤ 1000000 ∧ PyData.strOk k = true := by
  rcases kindS_or h with h | h | h <;> subst h <;> decide +kernel
end Z
set_option Elab.async false
set_option linter.all false
set_option autoImplicit false
set_option maxRecDepth 100000
set_option maxHeartbeats 4000000
namespace Z
open PySem PySem.Spec PyProof.Rows L2
/-! bounds -/
def Bd (m : Nat) : PyData → Prop
  | .int i => i.natAbs < 2 ^ (44 * m)
  | .str z => z.length ≤ 40 * m
  | _ => True
theorem Bd.le {m n : Nat} {d : PyData} (h : Bd m d) (k : m ≤ n) : Bd n d := by
  cases d with
  | int i => exact Nat.lt_of_lt_of_le h (Nat.pow_le_pow_right (by decide) (by omega))
  | str z => have h' : z.length ≤ 40 * m := h; show z.length ≤ 40 * n; omega
  | _ => trivial
def Ex.bd (m : Nat) : Ex → Prop
  | .col _ => True
  | .val _ v => Bd m v
  | .one _ x => x.bd m
  | .two _ x y => x.bd m ∧ y.bd m
  | .ife x y z => x.bd m ∧ y.bd m ∧ z.bd m
theorem Ex.bd_le {m n : Nat} (h : m ≤ n) : ∀ {e : Ex}, e.bd m → e.bd n
  | .col _, _ => trivial
  | .val _ _, q => q.le h
  | .one _ x, q => Ex.bd_le h (e := x) q
  | .two _ x y, q => ⟨Ex.bd_le h (e := x) q.1, Ex.bd_le h (e := y) q.2⟩
  | .ife x y z, q => ⟨Ex.bd_le h (e := x) q.1, Ex.bd_le h (e := y) q.2.1, Ex.bd_le h (e := z) q.2.2⟩
theorem Ex.bd_part {m : Nat} {e x : Ex} (h : e.bd m) (hx : x ∈ e.parts) : x.bd m := by
  cases e <;> simp [Ex.parts] at hx
  · subst hx; exact h
  · rcases hx with rfl | rfl
    · exact h.1
    · exact h.2
  · rcases hx with rfl | rfl | rfl
    · exact h.1
    · exact h.2.1
    · exact h.2.2
theorem small_bd {d : PyData} (h : smallD d) : Bd 1 d := by
  cases d with
  | int i => exact h.2.2.2
  | str z => exact h.1
  | _ => trivial
end Z
set_option Elab.async false
set_option linter.all false
set_option autoImplicit false
set_option maxRecDepth 100000
set_option maxHeartbeats 4000000
namespace Z
open PySem PySem.Spec PyProof.Rows L2
structure TxtE (K : PySem.W.Frag) (w : World) (mg : Str → Option Value) : Prop extends Txt K mg where
  z_reversed : mg "reversed" = none
  z_sum : mg "sum" = none
  z_list : mg "list" = none
  z_dict : mg "dict" = none
  c_EXPRESSION_NODES : ∃ u, mg "EXPRESSION_NODES" = some u ∧ RelV (.int 40) u
  c_EXPRESSION_LEVELS : ∃ u, mg "EXPRESSION_LEVELS" = some u ∧ RelV (.int 8) u
  c_EXPRESSIONS : ∃ a, mg "EXPRESSIONS" = some (.ref a) ∧ ∀ q ∈ exTab, ∃ t, KGot K w a q.1 (some (.ref t)) ∧ ∀ H, SqT K H t (q.2.map V.str)
  c_PLANS : ∃ a, mg "PLANS" = some (.ref a)
  c_PART_KINDS : ∃ a, mg "PART_KINDS" = some (.ref a) ∧ ∀ q ∈ partKinds, ∃ t, KDct K w a q.1 (.ref t) ∧ ∀ H, SqT K H t (q.2.map V.str)
  c_OWN_KINDS : ∃ a, mg "OWN_KINDS" = some (.ref a) ∧ ∀ q ∈ ownKinds, KDct K w a q.1 (.str q.2)
theorem lookup_mem {β : Type} : ∀ {l : List (Str × β)} {w : Str}, w ∈ l.map (·.1) → ∃ q, (w, q) ∈ l ∧ l.lookup w = some q
  | [], w, h => by cases h
  | (a, b) :: l, w, h => by
    rw [List.lookup_cons]
    by_cases e : w = a
    · subst e
      exact ⟨b, List.mem_cons_self .., by simp⟩
    · rcases List.mem_cons.mp h with h | h
      · exact absurd h e
      · obtain ⟨q, h1, h2⟩ := lookup_mem h
        refine ⟨q, List.mem_cons_of_mem _ h1, ?_⟩
        rw [show (w == a) = false from beq_eq_false_iff_ne.mpr e]; exact h2
theorem own_keys : ownKinds.map (·.1) = partKinds.map (·.1) := by decide +kernel
theorem part_short : (partKinds.all fun q => decide (q.2.length ≤ 3) && q.2.all fun k => kindS k || k == "any") = true := by decide +kernel
theorem own_short : (ownKinds.all fun q => kindS q.2 || q.2 == "any") = true := by decide +kernel
theorem want_ok {w last : Str} (hl : kindS last = true) : (∀ z ∈ wantK w last, kindS z = true) := by
  intro z hz
  unfold wantK at hz
  obtain ⟨k, hk, rfl⟩ := List.mem_map.mp hz
  cases e : partKinds.lookup w with
  | none => rw [e] at hk; cases hk
  | some l =>
    rw [e] at hk
    have hm : (w, l) ∈ partKinds := by
      clear hz hk
      generalize partKinds = T at e
      induction T with
      | nil => cases e
      | cons q T ih =>
        rw [List.lookup_cons] at e
        split at e
        · rename_i h
          have := eq_of_beq h
          cases e
          rw [this]; exact List.mem_cons_self ..
        · exact List.mem_cons_of_mem _ (ih e)
    have := List.all_eq_true.mp part_short _ hm
    rw [Bool.and_eq_true] at this
    have h2 := List.all_eq_true.mp this.2 k hk
    by_cases h3 : k = "any"
    · rw [if_pos h3]; exact hl
    · rw [if_neg h3]
      rw [Bool.or_eq_true] at h2
      rcases h2 with h2 | h2
      · exact h2
      · exact absurd (eq_of_beq h2) h3
def optV : Option Str → V
  | some k => .str k
  | none => .non
def spKB (K : PySem.W.Frag) : Sp := fun vs H Q _ => ∃ (z : Str) (a : Addr) (ks : List Str), vs = [.str z, .ref a] ∧ SqL K H a (ks.map V.str) ∧ ks ≠ [] ∧ ks.length ≤ 3 ∧ (∀ k ∈ ks, kindS k = true) ∧ z ∈ partKinds.map (·.1) ∧ ∀ H', Same H H' → Q (optV (kindB z ks)) H'
section
variable {P : Program} {w : World} {K : PySem.W.Frag} {mg : Str → Option Value} {base : Heap}
theorem kn_kind_behind (D : Def0 K mg "kind_behind" (top 6)) (T : TxtE K w mg) : Kn P w K mg base CX0 "kind_behind" 1 ["word", "kinds"] [] (spKB K) := by
  obtain ⟨f, fd, F, m⟩ := D
  obtain ⟨a_PART_KINDS, g_PART_KINDS, s_PART⟩ := T.c_PART_KINDS
  obtain ⟨a_OWN_KINDS, g_OWN_KINDS, s_OWN⟩ := T.c_OWN_KINDS
  have sc_ : FnScope ["word", "kinds", "last", "kind"] ["word", "kinds"] (defScope (top 6)) := ⟨rfl, rfl, rfl, by decide +kernel, rfl, by decide +kernel, by decide +kernel⟩
  refine kn_of F m (F.ok sc_ (fun vs H Q E h => ?_) (fun cdv A outer s H vs Q E hr h => ?_)) (F.bindsN fun _ _ _ _ _ _ us hl => match us, hl with | [_, _], _ => rfl)
  · obtain ⟨z, a, ks, rfl, _⟩ := h; rfl
  · obtain ⟨z, a, ks, rfl, hs, hne, hn, hks, hz, q⟩ := h
    refine ⟨_, PSs.nox (pss_cons (ps_set (i := 2) sc_.nd rfl (by first | exact Or.inl rfl | exact Or.inr rfl) (pe_ix (k_ixL (K := K)) (pv 1) (pe_un un_neg pe_int) (fun _ _ => rfl)))
      (pss_cons (ps_if (pt_cmpR (k_neD (K := K) hr.units) (pv 1) (pe_lc (own := [("kind", 3)]) (g := gName 3) (by rfl) sc_.nd (k_tup (K := K) (pe_ix (k_ixKD (K := K) (w := w)) (pe_gv (v := .ref a_PART_KINDS) ⟨_, g_PART_KINDS, rfl⟩) (pv 0) (fun _ _ => rfl))) (blkOk_by (N := ["word", "kinds", "last", "kind"]) (sc := defScope (top 6)) (by decide +kernel)) (fun _ _ _ _ _ => (pg_name (i := 3) sc_.nd rfl (by first | exact Or.inl rfl | exact Or.inr rfl))) (fun _ _ _ _ _ => pts_nil) (fun _ _ _ _ _ => (pe_ifExp (pt_cmpR op_eq (pv 3) pe_str (nomark _)) (pv 2) (pv 3)))) (nomark _)) (pss_one (ps_ret pe_non)) pss_nil)
      (pss_one (ps_ret (pe_ifExp (pt_cmpR op_eq (pe_ix (k_ixKD (K := K) (w := w)) (pe_gv (v := .ref a_OWN_KINDS) ⟨_, g_OWN_KINDS, rfl⟩) (pv 0) (fun _ _ => rfl)) pe_str (nomark _)) (pv 2) (pe_ix (k_ixKD (K := K) (w := w)) (pe_gv (v := .ref a_OWN_KINDS) ⟨_, g_OWN_KINDS, rfl⟩) (pv 0) (fun _ _ => rfl))))))), ?_⟩
    obtain ⟨l, h1, h2⟩ := lookup_mem hz
    obtain ⟨ow, g1, g2⟩ := lookup_mem (by rw [own_keys]; exact hz : z ∈ ownKinds.map (·.1))
    obtain ⟨t, kd, st⟩ := s_PART _ h1
    have ko := s_OWN _ g1
    have hlast : ∃ init last, ks = init ++ [last] := ⟨ks.dropLast, ks.getLast hne, (List.dropLast_concat_getLast hne).symm⟩
    obtain ⟨init, last, rfl⟩ := hlast
    have hlk : kindS last = true := hks last (by simp)
    have hgl : (init ++ [last]).getLastD "" = last := by rw [List.getLastD_eq_getLast?]; simp
    have hsl := List.all_eq_true.mp part_short _ h1
    rw [Bool.and_eq_true, decide_eq_true_eq] at hsl
    refine ⟨_, rfl, _, rfl, a, _, _, .str last, rfl, rfl, hs, ?_, ?_⟩
    · show atI ((init ++ [last]).map V.str) (-1) = _
      rw [List.map_append]; exact atI_last _ _
    refine ⟨_, rfl, _, rfl, a_PART_KINDS, z, .ref t, rfl, rfl, kd, t, rfl, ⟨_, st _⟩, fun Dd hD => lc_ok (walk_tup (K := K) (a := t) (xs := l.map V.str)) (fun i y _ => ∃ c, l[i]? = some c ∧ y = .str (if c = "any" then last else c)) hD (by rw [List.length_map]; exact Nat.lt_of_le_of_lt hsl.1 (by decide)) (fun H1 _ => st H1) (fun _ _ _ _ _ _ h => h) (fun _ _ _ _ h => by rw [h.1]; exact Same.refl _) ?_ ?_⟩
    · rintro i x H1 H' hi s1 ⟨rfl, hx⟩ Q' k
      rw [List.getElem?_map, Option.map_eq_some_iff] at hx
      obtain ⟨c, hc, rfl⟩ := hx
      refine ⟨rfl, _, rfl, rfl, _, rfl, ?_⟩
      by_cases hk : c = "any"
      · rw [decide_eq_true (congrArg V.str hk)]
        exact iteT ⟨_, rfl, k _ _ (Same.refl _) ⟨c, hc, by rw [if_pos hk]⟩⟩
      · rw [decide_eq_false (fun e => hk (V.str.inj e))]
        exact iteF ⟨_, rfl, k _ _ (Same.refl _) ⟨c, hc, by rw [if_neg hk]⟩⟩
    · intro H1 acc s1 hacc hla hra
      have hw : wantK z last = l.map fun (k : Str) => if k = "any" then last else k := by unfold wantK; rw [h2]; rfl
      have e : acc = (wantK z last).map V.str := by
        rw [hw, List.map_map]
        exact map_of (by rw [hla, List.length_map]) fun i y hy => by
          obtain ⟨c, h1, h2⟩ := hra i y hy
          exact ⟨c, h1, h2⟩
      subst e
      have hwk := want_ok (w := z) hlk
      have d1 : Da K H1 (.ref a) (.list ((init ++ [last]).map PyData.str)) := .lst (Same.seq s1 hs) (da_strs fun z h => (kind_ok (hks z h)).1)
      have d2 : Da K H1 (.ref Dd) (.list ((wantK z last).map PyData.str)) := .lst (SqL.of hacc) (da_strs fun z h => (kind_ok (hwk z h)).1)
      refine neD_go d1 d2 (shaped_strs fun z h => (kind_ok (hks z h)).2) (shaped_strs fun z h => (kind_ok (hwk z h)).2) ⟨_, rfl, ?_⟩
      rw [eqv_strs]
      have q1 := q H1 s1
      unfold kindB at q1
      rw [hgl] at q1
      by_cases hc : init ++ [last] = wantK z last
      · rw [decide_eq_true hc]
        rw [if_pos hc] at q1
        refine iteF ?_
        refine ⟨_, rfl, a_OWN_KINDS, z, .str ow, rfl, rfl, ko, rfl, _, rfl, ?_⟩
        unfold ownK at q1
        rw [g2] at q1
        by_cases ho : ow = "any"
        · rw [decide_eq_true (congrArg V.str ho)]
          refine iteT ⟨_, rfl, ?_⟩
          simp only [Option.getD_some] at q1
          rw [if_pos ho] at q1
          exact q1
        · rw [decide_eq_false (fun e => ho (V.str.inj e))]
          refine iteF ⟨_, rfl, a_OWN_KINDS, z, .str ow, rfl, rfl, ko, ?_⟩
          simp only [Option.getD_some] at q1
          rw [if_neg ho] at q1
          exact q1
      · rw [decide_eq_false hc]
        rw [if_neg hc] at q1
        exact iteT q1
end
end Z
set_option Elab.async false
set_option linter.all false
set_option autoImplicit false
set_option maxRecDepth 100000
set_option maxHeartbeats 4000000
namespace Z
open PySem PySem.Spec PyProof.Rows L2
theorem slA1 {K : PySem.W.Frag} {H : Hp} {a : Addr} {x : V} {xs : List V} {Q : VK} (h : SqT K H a (x :: xs)) (q : ∀ p, H p = none → Q (.ref p) (upd H p (.tup xs))) : rSlA K (.ref a) (some 1) none H Q := by
  have e1 : HT.sIx (x :: xs).length 0 (some 1) = 1 := by simp [HT.sIx]
  refine ⟨a, _, rfl, h, fun c => ?_, fun _ p hp => ?_⟩
  · rw [e1] at c; exact absurd c.1 (by decide)
  · have e2 : cutV (x :: xs) (some 1) none = xs := by
      unfold cutV; rw [e1]; simp [HT.sIx]
    rw [e2]; exact q p hp
theorem kindE_ok {f : Str → Option Str} (hf : ∀ n k, f n = some k → kindS k = true) : ∀ (e : Ex) {k : Str}, e.wf = true → kindE f e = some k → kindS k = true := by
  have opk : ∀ {w : Str} {ks : List Str} {k : Str}, (∀ z ∈ ks, kindS z = true) → ks ≠ [] → w ∈ partKinds.map (·.1) → kindB w ks = some k → kindS k = true := by
    intro w ks k h1 h2 h3 h4
    unfold kindB at h4
    split at h4
    · cases h4
      unfold ownK
      obtain ⟨q, g1, g2⟩ := lookup_mem (by rw [own_keys]; exact h3 : w ∈ ownKinds.map (·.1))
      rw [g2]
      have := List.all_eq_true.mp own_short _ g1
      rw [Bool.or_eq_true] at this
      simp only [Option.getD_some]
      by_cases h : q = "any"
      · rw [if_pos h, List.getLastD_eq_getLast?, List.getLast?_eq_some_getLast h2]
        exact h1 _ (List.getLast_mem h2)
      · rw [if_neg h]
        rcases this with t | t
        · exact t
        · exact absurd (eq_of_beq t) h
    · cases h4
  intro e
  induction e with
  | col n => intro k _ h; exact hf _ _ h
  | val a b =>
    intro k h1 h
    simp only [Ex.wf, Bool.and_eq_true] at h1
    cases h; exact h1.1
  | one w x ih =>
    intro k h1 h
    have ht := (Ex.op_tab h1 rfl).1
    simp only [Ex.wf, Bool.and_eq_true] at h1
    simp only [kindE, Option.bind_eq_some_iff] at h
    obtain ⟨a, ha, hb⟩ := h
    exact opk (ks := [a]) (by simpa using ih h1.2 ha) (by simp) ht hb
  | two w x y ih1 ih2 =>
    intro k h1 h
    have ht := (Ex.op_tab h1 rfl).1
    simp only [Ex.wf, Bool.and_eq_true] at h1
    simp only [kindE, Option.bind_eq_some_iff] at h
    obtain ⟨a, ha, b, hb, hc⟩ := h
    exact opk (ks := [a, b]) (by simpa using ⟨ih1 h1.2.1 ha, ih2 h1.2.2 hb⟩) (by simp) ht hc
  | ife x y z ih1 ih2 ih3 =>
    intro k h1 h
    have ht := (Ex.op_tab h1 rfl).1
    simp only [Ex.wf, Bool.and_eq_true] at h1
    simp only [kindE, Option.bind_eq_some_iff] at h
    obtain ⟨a, ha, b, hb, c, hc, hd⟩ := h
    exact opk (ks := [a, b, c]) (by simpa using ⟨ih1 h1.1 ha, ih2 h1.2.1 hb, ih3 h1.2.2 hc⟩) (by simp) ht hd
def kindsIn (cols : List (Str × Str)) : Str → Option Str := fun n => cols.lookup n
theorem lookup_in {β : Type} : ∀ {l : List (Str × β)} {w : Str} {q : β}, l.lookup w = some q → (w, q) ∈ l
  | [], _, _, h => by cases h
  | (a, b) :: l, w, q, h => by
    rw [List.lookup_cons] at h
    split at h
    · rename_i e
      cases h
      rw [eq_of_beq e]; exact List.mem_cons_self ..
    · exact List.mem_cons_of_mem _ (lookup_in h)
theorem kindsIn_ok {cols : List (Str × Str)} (h : ∀ c ∈ cols, kindS c.2 = true) (n k : Str) (hk : kindsIn cols n = some k) : kindS k = true := h _ (lookup_in hk)
def spKW (K : PySem.W.Frag) (n : Nat) : Sp := fun vs H Q _ => ∃ v e kp cols k, vs = [v, .ref kp] ∧ Da K H v (Ex.d e) ∧ e.wf = true ∧ e.levels ≤ n ∧ H kp = some (.dK (kvsOf cols)) ∧ (∀ c ∈ cols, kindS c.2 = true) ∧ kindE (kindsIn cols) e = some k ∧ ∀ H', Same H H' → Q (.str k) H'
theorem Da.tupI {K : PySem.W.Frag} {H : Hp} {v : V} {ds : List PyData} (h : Da K H v (.tuple ds)) : ∃ a xs, v = .ref a ∧ SqT K H a xs ∧ DaL K H xs ds := by
  cases h with
  | tup h1 h2 => exact ⟨_, _, rfl, h1, h2⟩
theorem Da.strI {K : PySem.W.Frag} {H : Hp} {v : V} {z : Str} (h : Da K H v (.str z)) : v = .str z := by
  cases h; rfl
theorem DaL.consI {K : PySem.W.Frag} {H : Hp} {vs : List V} {d : PyData} {ds : List PyData} (h : DaL K H vs (d :: ds)) : ∃ v ws, vs = v :: ws ∧ Da K H v d ∧ DaL K H ws ds := by
  cases h with
  | cons a b => exact ⟨_, _, rfl, a, b⟩
theorem DaL.nilI {K : PySem.W.Frag} {H : Hp} {vs : List V} (h : DaL K H vs []) : vs = [] := by
  cases h; rfl
/-- an expression's tuple: its word, its items -/
theorem Ex.open {K : PySem.W.Frag} {H : Hp} {v : V} {e : Ex} (h : Da K H v e.d) : ∃ a xs, v = .ref a ∧ SqT K H a (.str e.word :: xs) ∧ DaL K H xs e.items := by
  rw [Ex.d_items] at h
  obtain ⟨a, xs, rfl, h1, h2⟩ := h.tupI
  obtain ⟨x, ys, rfl, h3, h4⟩ := h2.consI
  rw [h3.strI] at h1
  exact ⟨a, ys, rfl, h1, h4⟩
theorem Ex.op_items {e : Ex} (h : e.isOp = true) : e.items = e.parts.map Ex.d := by cases e <;> first | rfl | cases h
section
variable {P : Program} {w : World} {K : PySem.W.Frag} {mg : Str → Option Value} {base : Heap}
end
end Z
set_option Elab.async false
set_option linter.all false
set_option autoImplicit false
set_option maxRecDepth 100000
set_option maxHeartbeats 4000000
namespace Z
open PySem PySem.Spec PyProof.Rows L2
def spField (K : PySem.W.Frag) : Sp := fun vs H Q _ => ∃ z v d, vs = [.str z, v] ∧ Da K H v d ∧ fieldOk z d ∧ ∀ H', Same H H' → Q (.bl true) H'
def spTabF : Sp := fun vs H Q _ => ∃ z v, vs = [.str z, v] ∧ (z = "part" ∨ z = "constant") ∧ Q (.bl true) H
def spFieldsOf (K : PySem.W.Frag) : Sp := fun vs H Q _ => ∃ v e, vs = [v, .str "part"] ∧ Da K H v (Ex.d e) ∧ e.wf = true ∧ ∀ t H', Same H H' → (∀ H2, SqT K H2 t (e.fields.map V.str)) → Q (.ref t) H'
def spForm (K : PySem.W.Frag) : Sp := fun vs H Q _ => ∃ v e, vs = [v, .str "part"] ∧ Da K H v (Ex.d e) ∧ e.wf = true ∧ ∀ H', Same H H' → Q (.bl true) H'
def spInside (K : PySem.W.Frag) : Sp := fun vs H Q _ => ∃ v e, vs = [v, .str "part"] ∧ Da K H v (Ex.d e) ∧ e.wf = true ∧ ∀ l ws H', H l = none → Same H H' → H' l = some (.lst ws) → DaL K H' ws (e.parts.map Ex.d) → Q (.ref l) H'
theorem Ex.items_pure {e : Ex} (h : e.wf = true) {i : Nat} {d : PyData} (hd : e.items[i]? = some d) : pureD d = true := by
  have h1 := Ex.pure e h
  rw [Ex.d_items] at h1
  have h2 : pureD.pureL e.items = true := by simpa [pureD, pureD.pureL] using h1
  clear h1 h
  generalize e.items = L at h2 hd
  induction L generalizing i with
  | nil => simp at hd
  | cons a L ih =>
    simp only [pureD.pureL, Bool.and_eq_true] at h2
    cases i with
    | zero => simp at hd; subst hd; exact h2.1
    | succ i => exact ih h2.2 (by simpa using hd)
theorem goF {a b : Str} {p q : Prop} (h : a ≠ b) (k : q) : if decide (V.str a = V.str b) = true then p else q := by
  rw [decide_eq_false (fun c => h (V.str.inj c))]; exact k
theorem goT {a b : Str} {p q : Prop} (h : a = b) (k : p) : if decide (V.str a = V.str b) = true then p else q := by
  rw [decide_eq_true (congrArg V.str h)]; exact k
section
variable {P : Program} {w : World} {K : PySem.W.Frag} {mg : Str → Option Value} {base : Heap}
theorem kn_is_field (D : Def0 K mg "is_field" (top 41)) (T : TxtE K w mg) (F_is_name : Kn P w K mg base CX0 "is_name" 1 ["value"] [] (spD K nameD)) (F_is_kind : Kn P w K mg base CX0 "is_kind" 1 ["value"] [] (spD K kindD)) (F_is_table_field : Kn P w K mg base CX0 "is_table_field" 1 ["field", "item"] [] spTabF) : Kn P w K mg base CX0 "is_field" 2 ["field", "item"] [] (spField K) := by
  obtain ⟨f, fd, F, m⟩ := D
  have sc_ : FnScope ["field", "item"] ["field", "item"] (defScope (top 41)) := ⟨rfl, rfl, rfl, by decide +kernel, rfl, by decide +kernel, by decide +kernel⟩
  refine kn_of F m (F.ok sc_ (fun vs H Q E h => ?_) (fun cdv A outer s H vs Q E hr h => ?_)) (F.bindsN fun _ _ _ _ _ _ us hl => match us, hl with | [_, _], _ => rfl)
  · obtain ⟨z, v, d, rfl, _⟩ := h; rfl
  · obtain ⟨z, v, d, rfl, hd, hf, q⟩ := h
    refine ⟨_, PSs.nox (pss_cons (ps_if (pt_cmpR op_eq (pv 0) pe_str (nomark _)) (pss_one (ps_ret (pe_own F_is_name hr (by first | decide | omega | (simp only [Nat.add_eq]; omega)) pass0 (pa_cons (pv 1) pa_nil)))) pss_nil)
      (pss_cons (ps_if (pt_cmpR op_eq (pv 0) pe_str (nomark _)) (pss_one ps_never) pss_nil)
      (pss_cons (ps_if (pt_cmpR op_eq (pv 0) pe_str (nomark _)) (pss_one ps_never) pss_nil)
      (pss_cons (ps_if (pt_cmpR op_eq (pv 0) pe_str (nomark _)) (pss_one (ps_ret (pe_own F_is_kind hr (by first | decide | omega | (simp only [Nat.add_eq]; omega)) pass0 (pa_cons (pv 1) pa_nil)))) pss_nil)
      (pss_cons (ps_if (pt_cmpR op_eq (pv 0) pe_str (nomark _)) (pss_one ps_never) pss_nil)
      (pss_cons (ps_if (pt_cmpR op_eq (pv 0) pe_str (nomark _)) (pss_one ps_never) pss_nil)
      (pss_cons (ps_if (pt_cmpR op_eq (pv 0) pe_str (nomark _)) (pss_one ps_never) pss_nil)
      (pss_cons (ps_if (pt_cmpR op_eq (pv 0) pe_str (nomark _)) (pss_one ps_never) pss_nil)
      (pss_cons (ps_if (pt_cmpR op_eq (pv 0) pe_str (nomark _)) (pss_one ps_never) pss_nil)
      (pss_one (ps_ret (pe_own F_is_table_field hr (by first | decide | omega | (simp only [Nat.add_eq]; omega)) pass0 (pa_cons (pv 0) (pa_cons (pv 1) pa_nil)))))))))))))), ?_⟩
    rcases hf with ⟨rfl, hn⟩ | ⟨rfl, hn⟩ | hpc
    · refine ⟨_, rfl, rfl, _, rfl, ?_⟩
      refine goT rfl ?_
      refine ⟨_, rfl, v, d, rfl, hd, fun H1 e1 => ?_⟩
      rw [hn]; exact q _ e1
    · refine ⟨_, rfl, rfl, _, rfl, ?_⟩
      refine goF (by decide +kernel) ?_
      refine ⟨_, rfl, rfl, _, rfl, ?_⟩
      refine goF (by decide +kernel) ?_
      refine ⟨_, rfl, rfl, _, rfl, ?_⟩
      refine goF (by decide +kernel) ?_
      refine ⟨_, rfl, rfl, _, rfl, ?_⟩
      refine goT rfl ?_
      refine ⟨_, rfl, v, d, rfl, hd, fun H1 e1 => ?_⟩
      rw [hn]; exact q _ e1
    · have hne : ∀ x : Str, x ∈ ([("name" : Str), "any names", "names", "kind", "expression", "number", "limit", "how", "running"] : List Str) → z ≠ x := by
        rcases hpc with rfl | rfl <;> decide +kernel
      refine ⟨_, rfl, rfl, _, rfl, ?_⟩
      refine goF (hne _ (by simp)) ?_
      refine ⟨_, rfl, rfl, _, rfl, ?_⟩
      refine goF (hne _ (by simp)) ?_
      refine ⟨_, rfl, rfl, _, rfl, ?_⟩
      refine goF (hne _ (by simp)) ?_
      refine ⟨_, rfl, rfl, _, rfl, ?_⟩
      refine goF (hne _ (by simp)) ?_
      refine ⟨_, rfl, rfl, _, rfl, ?_⟩
      refine goF (hne _ (by simp)) ?_
      refine ⟨_, rfl, rfl, _, rfl, ?_⟩
      refine goF (hne _ (by simp)) ?_
      refine ⟨_, rfl, rfl, _, rfl, ?_⟩
      refine goF (hne _ (by simp)) ?_
      refine ⟨_, rfl, rfl, _, rfl, ?_⟩
      refine goF (hne _ (by simp)) ?_
      refine ⟨_, rfl, rfl, _, rfl, ?_⟩
      refine goF (hne _ (by simp)) ?_
      exact ⟨_, rfl, _, rfl, z, v, rfl, hpc, q _ (Same.refl _)⟩
end
end Z
set_option Elab.async false
set_option linter.all false
set_option autoImplicit false
set_option maxRecDepth 100000
set_option maxHeartbeats 4000000
namespace Z
open PySem PySem.Spec PyProof.Rows L2
theorem Da.tupD {K : PySem.W.Frag} {H : Hp} {a : Addr} {xs : List V} {ds : List PyData} (h1 : SqT K H a xs) (h2 : DaL K H xs ds) : Da K H (.ref a) (.tuple ds) := .tup h1 h2
theorem Ex.val_items {e : Ex} (hw : e.wf = true) (h : e.word = "value") : ∃ k v, e = .val k v := by
  by_cases ho : e.isOp = true
  · exact absurd h (Ex.op_tab hw ho).2.2
  · cases e with
    | col n => exact absurd h (by show ¬ ("col" : Str) = "value"; decide +kernel)
    | val k v => exact ⟨k, v, rfl⟩
    | _ => exact absurd rfl ho
theorem Ex.fields_le (e : Ex) : e.fields.length ≤ 3 := by cases e <;> simp [Ex.fields]
theorem Ex.not_melt {e : Ex} (hw : e.wf = true) : e.word ≠ "melt" := by
  have h := Ex.fields_tab hw
  have : (exTab.all fun q => !(q.1 == "melt")) = true := by decide +kernel
  have h2 := List.all_eq_true.mp this _ h
  intro c
  simp only [Bool.not_eq_true', beq_eq_false_iff_ne] at h2
  exact h2 c
theorem Ex.word_str (e : Ex) (hw : e.wf = true) : e.word.length ≤ 1000000 := by
  have h := Ex.fields_tab hw
  have : (exTab.all fun q => decide (q.1.length ≤ 10)) = true := by decide +kernel
  have h2 := List.all_eq_true.mp this _ h
  exact Nat.le_trans (of_decide_eq_true h2) (by decide)
section
variable {P : Program} {w : World} {K : PySem.W.Frag} {mg : Str → Option Value} {base : Heap}
theorem kn_is_table_field (D : Def0 K mg "is_table_field" (top 42)) (T : TxtE K w mg) : Kn P w K mg base CX0 "is_table_field" 1 ["field", "item"] [] spTabF := by
  obtain ⟨f, fd, F, m⟩ := D
  have sc_ : FnScope ["field", "item", "entry"] ["field", "item"] (defScope (top 42)) := ⟨rfl, rfl, rfl, by decide +kernel, rfl, by decide +kernel, by decide +kernel⟩
  refine kn_of F m (F.ok sc_ (fun vs H Q E h => ?_) (fun cdv A outer s H vs Q E hr h => ?_)) (F.bindsN fun _ _ _ _ _ _ us hl => match us, hl with | [_, _], _ => rfl)
  · obtain ⟨z, v, rfl, _⟩ := h; rfl
  · obtain ⟨z, v, rfl, hpc, q⟩ := h
    refine ⟨_, PSs.nox (pss_cons (ps_if (pt_cmpR op_eq (pv 0) pe_str (nomark _)) (pss_one ps_never) pss_nil)
      (pss_cons (ps_if (pt_cmpR op_eq (pv 0) pe_str (nomark _)) (pss_one ps_never) pss_nil)
      (pss_cons (ps_if (pt_cmpR op_eq (pv 0) pe_str (nomark _)) (pss_one ps_never) pss_nil)
      (pss_one (ps_ret pe_bl))))), ?_⟩
    have hne : ∀ x : Str, x ∈ ([("keys" : Str), "pairs", "sums"] : List Str) → z ≠ x := by
      rcases hpc with rfl | rfl <;> decide +kernel
    refine ⟨_, rfl, rfl, _, rfl, ?_⟩
    refine goF (hne _ (by simp)) ?_
    refine ⟨_, rfl, rfl, _, rfl, ?_⟩
    refine goF (hne _ (by simp)) ?_
    refine ⟨_, rfl, rfl, _, rfl, ?_⟩
    exact goF (hne _ (by simp)) q
theorem kn_fields_of (D : Def0 K mg "fields_of" (top 35)) (T : TxtE K w mg) : Kn P w K mg base CX0 "fields_of" 1 ["node", "inner"] [] (spFieldsOf K) := by
  obtain ⟨f, fd, F, m⟩ := D
  obtain ⟨a_EXPRESSIONS, g_EXPRESSIONS, s_EX⟩ := T.c_EXPRESSIONS
  obtain ⟨a_PLANS, g_PLANS⟩ := T.c_PLANS
  have sc_ : FnScope ["node", "inner", "fields"] ["node", "inner"] (defScope (top 35)) := ⟨rfl, rfl, rfl, by decide +kernel, rfl, by decide +kernel, by decide +kernel⟩
  refine kn_of F m (F.ok sc_ (fun vs H Q E h => ?_) (fun cdv A outer s H vs Q E hr h => ?_)) (F.bindsN fun _ _ _ _ _ _ us hl => match us, hl with | [_, _], _ => rfl)
  · obtain ⟨v, e, rfl, _⟩ := h; rfl
  · obtain ⟨v, e, rfl, hd, hw, q⟩ := h
    refine ⟨_, PSs.nox (pss_cons (ps_if (PW.pt (pw_or (pt_not (pt_val (pe_callB (k_isi (K := K)) (by rfl) T.z_isinstance (by decide +kernel) (pa_cons (pv 0) (pa_cons (pe_bltn (v := .ty "tuple") (by rfl) T.z_tuple (by decide +kernel) rfl) pa_nil))))) (pw_or (pt_cmpR op_eq (pe_callB (k_len (K := K)) (by rfl) T.z_len (by decide +kernel) (pa_cons (pv 0) pa_nil)) pe_int (nomark _)) (pw_or1 (pt_not (pt_val (pe_callB (k_isi (K := K)) (by rfl) T.z_isinstance (by decide +kernel) (pa_cons (pe_ix (k_ixT (K := K)) (pv 0) pe_int (fun _ _ => rfl)) (pa_cons (pe_bltn (v := .ty "str") (by rfl) T.z_str (by decide +kernel) rfl) pa_nil))))))))) (pss_one (ps_ret pe_non)) pss_nil)
      (pss_cons (ps_set (i := 2) sc_.nd rfl (by first | exact Or.inl rfl | exact Or.inr rfl) (pe_ifExp (pt_cmpR op_eq (pv 1) pe_str (nomark _)) (pe_kget (K := K) (w := w) (pe_gv (v := .ref a_EXPRESSIONS) ⟨_, g_EXPRESSIONS, rfl⟩) (pe_ix (k_ixT (K := K)) (pv 0) pe_int (fun _ _ => rfl))) (pe_kget (K := K) (w := w) (pe_gv (v := .ref a_PLANS) ⟨_, g_PLANS, rfl⟩) (pe_ix (k_ixT (K := K)) (pv 0) pe_int (fun _ _ => rfl)))))
      (pss_cons (ps_if (PW.pt (pw_or (pt_cmpR op_isN (pv 2) pe_non (nomark _)) (pw_or1 (pt_cmpR op_ne (pe_callB (k_len (K := K)) (by rfl) T.z_len (by decide +kernel) (pa_cons (pv 2) pa_nil)) (pe_op op_sub (pe_callB (k_len (K := K)) (by rfl) T.z_len (by decide +kernel) (pa_cons (pv 0) pa_nil)) pe_int) (nomark _))))) (pss_one (ps_ret pe_non)) pss_nil)
      (pss_one (ps_ret (pv 2)))))), ?_⟩
    obtain ⟨t, kg, st⟩ := s_EX _ (Ex.fields_tab hw)
    have hd2 := hd
    rw [Ex.d_items] at hd2
    obtain ⟨a, xs, rfl, hs, hx⟩ := Ex.open hd
    refine ⟨_, rfl, ?_⟩
    refine ⟨_, _, _, _, _, rfl, .ty _, Da.ty hd2, kit_D _ "tuple" (by decide), ?_⟩
    refine ⟨_, rfl, ?_⟩
    refine iteF ?_
    refine ⟨_, rfl, a, _, rfl, .inr hs, rfl, _, rfl, ?_⟩
    rw [decide_eq_false (fun c => by injection c with c; simp at c; omega)]
    refine iteF ?_
    have hw0 : Da K H (.str e.word) (.str e.word) := .str _ (Ex.word_str e hw)
    refine ⟨_, rfl, a, _, _, _, rfl, rfl, hs, atI_nat (j := 0) rfl, ?_⟩
    refine ⟨_, _, _, _, _, rfl, .ty _, Da.ty hw0, kit_D _ "str" (by decide), ?_⟩
    refine ⟨_, rfl, ?_⟩
    refine iteF ?_
    refine ⟨_, rfl, rfl, _, rfl, ?_⟩
    refine goT rfl ?_
    have kg2 := kg
    obtain ⟨es, n, D, _⟩ := kg2
    refine ⟨a_EXPRESSIONS, rfl, ⟨es, n, D⟩, _, rfl, a, _, _, _, rfl, rfl, hs, atI_nat (j := 0) rfl, e.word, _, rfl, kg, ?_⟩
    refine ⟨_, rfl, rfl, _, rfl, ?_⟩
    refine iteF ?_
    have hlen : xs.length = e.items.length := hx.length
    have hf := e.items_fields
    refine ⟨_, rfl, t, _, rfl, .inr (st _), _, rfl, a, _, rfl, .inr hs, _, _, rfl, rfl, rfl, _, rfl, ?_⟩
    rw [decide_eq_true (show V.int (((e.fields.map V.str).length : Nat) : Int) = V.int ((((V.str e.word :: xs).length : Nat) : Int) - 1) by congr 1; simp; omega)]
    exact iteF ⟨_, rfl, q t _ (Same.refl _) st⟩
theorem kn_has_form (D : Def0 K mg "has_form" (top 36)) (T : TxtE K w mg) (F_fields_of : Kn P w K mg base CX0 "fields_of" 1 ["node", "inner"] [] (spFieldsOf K)) (F_is_field : Kn P w K mg base CX0 "is_field" 2 ["field", "item"] [] (spField K)) (F_is_value : Kn P w K mg base CX0 "is_value" 2 ["kind", "value"] [] (spValue K)) : Kn P w K mg base CX0 "has_form" 3 ["node", "inner"] [] (spForm K) := by
  obtain ⟨f, fd, F, m⟩ := D
  have sc_ : FnScope ["node", "inner", "fields", "field", "item"] ["node", "inner"] (defScope (top 36)) := ⟨rfl, rfl, rfl, by decide +kernel, rfl, by decide +kernel, by decide +kernel⟩
  refine kn_of F m (F.ok sc_ (fun vs H Q E h => ?_) (fun cdv A outer s H vs Q E hr h => ?_)) (F.bindsN fun _ _ _ _ _ _ us hl => match us, hl with | [_, _], _ => rfl)
  · obtain ⟨v, e, rfl, _⟩ := h; rfl
  · obtain ⟨v, e, rfl, hd, hw, q⟩ := h
    refine ⟨_, PSs.nox (pss_cons (ps_set (i := 2) sc_.nd rfl (by first | exact Or.inl rfl | exact Or.inr rfl) (pe_own F_fields_of hr (by first | decide | omega | (simp only [Nat.add_eq]; omega)) pass0 (pa_cons (pv 0) (pa_cons (pv 1) pa_nil))))
      (pss_cons (ps_if (pt_cmpR op_isN (pv 2) pe_non (nomark _)) (pss_one (ps_ret pe_bl)) pss_nil)
      (pss_cons (ps_if (pt_not (pt_val (pe_callB (k_all (K := K) rfl) (by rfl) T.z_all (by decide +kernel) (pa_cons (pe_lc (own := [("field", 3), ("item", 4)]) (g := gTup K 2 (gCons (gName 3) (gCons (gName 4) gNil))) (by rfl) sc_.nd (k_zip (K := K) T.z_zip (pa_cons (pv 2) (pa_cons (pe_slice (k_slA (K := K)) (pv 0) (po_some pe_int) po_none) pa_nil))) (blkOk_by (N := ["node", "inner", "fields", "field", "item"]) (sc := defScope (top 36)) (by decide +kernel)) (fun _ _ _ _ _ => (k_pgT (K := K) (pgs_cons (pg_name (i := 3) sc_.nd rfl (by first | exact Or.inl rfl | exact Or.inr rfl)) (pgs_cons (pg_name (i := 4) sc_.nd rfl (by first | exact Or.inl rfl | exact Or.inr rfl)) pgs_nil)))) (fun _ _ _ _ _ => pts_nil) (fun _ _ _ _ _ => (pe_own F_is_field hr (by first | decide | omega | (simp only [Nat.add_eq]; omega)) pass0 (pa_cons (pv 3) (pa_cons (pv 4) pa_nil))))) pa_nil)))) (pss_one (ps_ret pe_bl)) pss_nil)
      (pss_cons (ps_if (pt_cmpR op_eq (pe_ix (k_ixT (K := K)) (pv 0) pe_int (fun _ _ => rfl)) pe_str (nomark _)) (pss_one (ps_ret (pe_own F_is_value hr (by first | decide | omega | (simp only [Nat.add_eq]; omega)) pass0 (pa_cons (pe_ix (k_ixT (K := K)) (pv 0) pe_int (fun _ _ => rfl)) (pa_cons (pe_ix (k_ixT (K := K)) (pv 0) pe_int (fun _ _ => rfl)) pa_nil))))) pss_nil)
      (pss_cons (ps_if (pt_cmpR op_eq (pe_ix (k_ixT (K := K)) (pv 0) pe_int (fun _ _ => rfl)) pe_str (nomark _)) (pss_one ps_never) pss_nil)
      (pss_one (ps_ret pe_bl))))))), ?_⟩
    obtain ⟨a, xs, rfl, hs, hx⟩ := Ex.open hd
    refine ⟨_, rfl, _, rfl, _, e, rfl, hd, hw, fun t H1 e1 st => ?_⟩
    refine ⟨_, rfl, rfl, _, rfl, ?_⟩
    refine iteF ?_
    have hs1 := same_t e1 hs
    have hx1 := DaL.mono e1 hx
    have hlen : xs.length = e.fields.length := by rw [hx.length, e.items_fields]
    refine ⟨_, rfl, _, rfl, 1, rfl, ?_⟩
    dsimp only [tNoPart]
    refine slA1 hs1 fun p hp => ?_
    have s1 : Same H1 (upd H1 p (.tup xs)) := same_new hp
    refine ⟨t, p, e.fields.map V.str, xs, rfl, .inr ⟨st _, SqT.of upd_same, fun Dd hD => lc_ok (walk_zipT (K := K) (n := e.fields.length) (by simp) hlen) (fun i y _ => y = .bl true) hD (Nat.lt_of_le_of_lt e.fields_le (by decide)) (fun H2 e2 => ⟨st _, same_t e2 (SqT.of upd_same)⟩) (fun _ _ _ _ _ _ h => h) (fun _ _ _ _ h => ?_) ?_ ?_⟩⟩
    · obtain ⟨t', x, y, _, h0, rfl, _⟩ := h
      exact same_new h0
    · rintro i x H2 H3 hi s2 ⟨t', x1, y1, rfl, h0, rfl, hx2, hy2⟩ Q' k
      have s3 : Same H1 (upd H2 t' (.tup [x1, y1])) := (s1.trans s2).trans (same_new h0)
      have hx3 : (e.fields.map V.str)[i]? = some x1 := hx2
      rw [List.getElem?_map, Option.map_eq_some_iff] at hx3
      obtain ⟨c, hc, rfl⟩ := hx3
      obtain ⟨d, hd1, hd2⟩ := DaL.get hx1 (show xs[i]? = some y1 from hy2)
      refine ⟨t', _, rfl, SqT.of upd_same, rfl, _, _, rfl, _, _, rfl, rfl, rfl, ?_⟩
      exact ⟨_, rfl, _, rfl, c, y1, d, rfl, hd2.mono s3, Ex.fieldOk hw hc hd1, fun H4 e4 => k _ _ e4 rfl⟩
    · intro H2 acc s2 hacc hla hra
      have ea : acc = (List.replicate acc.length true).map V.bl := by
        apply List.ext_getElem?
        intro i
        by_cases hi : i < acc.length
        · have h1 := hra i acc[i] (List.getElem?_eq_getElem hi)
          rw [List.getElem?_eq_getElem hi, h1, List.getElem?_map, List.getElem?_replicate, if_pos hi]; rfl
        · rw [List.getElem?_eq_none (by omega), List.getElem?_eq_none (by rw [List.length_map, List.length_replicate]; omega)]
      have s4 : Same H H2 := (e1.trans s1).trans s2
      refine ⟨_, List.replicate acc.length true, rfl, SqL.of (by rw [hacc, ← ea]), _, rfl, ?_⟩
      rw [show (List.replicate acc.length true).all id = true by simp]
      refine iteF ?_
      have hs4 := same_t s4 hs
      refine ⟨_, rfl, a, _, _, _, rfl, rfl, hs4, atI_nat (j := 0) rfl, rfl, _, rfl, ?_⟩
      by_cases hv : e.word = "value"
      · obtain ⟨kd, vv, rfl⟩ := Ex.val_items hw hv
        refine goT rfl ?_
        obtain ⟨x0, ys, rfl, h3, h4⟩ := hx.consI
        obtain ⟨x1, zs, rfl, h5, h6⟩ := h4.consI
        cases h3.strI
        refine ⟨_, rfl, a, _, _, _, rfl, rfl, hs4, atI_nat (j := 1) rfl, _, rfl, a, _, _, _, rfl, rfl, hs4, atI_nat (j := 2) rfl, kd, x1, vv, rfl, h5.mono s4, fun H5 e5 => ?_⟩
        have : valueD kd vv = true := by
          simp only [Ex.wf, Bool.and_eq_true] at hw; exact hw.2.1
        rw [this]
        exact q _ (s4.trans e5)
      · refine goF hv ?_
        refine ⟨_, rfl, a, _, _, _, rfl, rfl, hs4, atI_nat (j := 0) rfl, rfl, _, rfl, ?_⟩
        exact goF (Ex.not_melt hw) (q _ s4)
end
end Z
set_option Elab.async false
set_option linter.all false
set_option autoImplicit false
set_option maxRecDepth 100000
set_option maxHeartbeats 4000000
namespace Z
open PySem PySem.Spec PyProof.Rows L2
section
variable {P : Program} {w : World} {K : PySem.W.Frag} {mg : Str → Option Value} {base : Heap}
theorem kn_nodes_inside (D : Def0 K mg "nodes_inside" (top 37)) (T : TxtE K w mg) (F_fields_of : Kn P w K mg base CX0 "fields_of" 1 ["node", "inner"] [] (spFieldsOf K)) : Kn P w K mg base CX0 "nodes_inside" 2 ["node", "inner"] [] (spInside K) := by
  obtain ⟨f, fd, F, m⟩ := D
  have sc_ : FnScope ["node", "inner", "field", "item"] ["node", "inner"] (defScope (top 37)) := ⟨rfl, rfl, rfl, by decide +kernel, rfl, by decide +kernel, by decide +kernel⟩
  refine kn_of F m (F.ok sc_ (fun vs H Q E h => ?_) (fun cdv A outer s H vs Q E hr h => ?_)) (F.bindsN fun _ _ _ _ _ _ us hl => match us, hl with | [_, _], _ => rfl)
  · obtain ⟨v, e, rfl, _⟩ := h; rfl
  · obtain ⟨v, e, rfl, hd, hw, q⟩ := h
    refine ⟨_, PSs.nox (pss_one (ps_ret (pe_lc (own := [("field", 2), ("item", 3)]) (g := gTup K 2 (gCons (gName 2) (gCons (gName 3) gNil))) (by rfl) sc_.nd (k_zip (K := K) T.z_zip (pa_cons (pe_own F_fields_of hr (by first | decide | omega | (simp only [Nat.add_eq]; omega)) pass0 (pa_cons (pv 0) (pa_cons (pv 1) pa_nil))) (pa_cons (pe_slice (k_slA (K := K)) (pv 0) (po_some pe_int) po_none) pa_nil))) (blkOk_by (N := ["node", "inner", "field", "item"]) (sc := defScope (top 37)) (by decide +kernel)) (fun _ _ _ _ _ => (k_pgT (K := K) (pgs_cons (pg_name (i := 2) sc_.nd rfl (by first | exact Or.inl rfl | exact Or.inr rfl)) (pgs_cons (pg_name (i := 3) sc_.nd rfl (by first | exact Or.inl rfl | exact Or.inr rfl)) pgs_nil)))) (fun _ _ _ _ _ => (pts_one (pt_cmpR op_eq (pv 2) (pv 1) (nomark _)))) (fun _ _ _ _ _ => (pv 3))))), ?_⟩
    obtain ⟨a, xs, rfl, hs, hx⟩ := Ex.open hd
    refine ⟨_, rfl, _, rfl, _, e, rfl, hd, hw, fun t H1 e1 st => ?_⟩
    have hs1 := same_t e1 hs
    have hx1 := DaL.mono e1 hx
    have hlen : xs.length = e.fields.length := by rw [hx.length, e.items_fields]
    refine ⟨_, rfl, 1, rfl, ?_⟩
    dsimp only [tNoPart]
    refine slA1 hs1 fun p hp => ?_
    have s1 : Same H1 (upd H1 p (.tup xs)) := same_new hp
    refine ⟨t, p, e.fields.map V.str, xs, rfl, .inr ⟨st _, SqT.of upd_same, fun Dd hD => lc_okF (walk_zipT (K := K) (n := e.fields.length) (by simp) hlen) (fun i => e.fields[i]? == some ("part" : Str)) (fun i y H => ∃ d, e.items[i]? = some d ∧ Da K H y d) hD (Nat.lt_of_le_of_lt e.fields_le (by decide)) (fun H2 e2 => ⟨st _, same_t e2 (SqT.of upd_same)⟩) (fun i y H2 H3 _ e2 ⟨d, h1, h2⟩ => ⟨d, h1, Da.monoT e2 (Ex.items_pure hw h1) h2⟩) (fun _ _ _ _ h => ?_) ?_ ?_⟩⟩
    · obtain ⟨t', x, y, _, h0, rfl, _⟩ := h
      exact same_new h0
    · rintro i x H2 H3 hi s2 ⟨t', x1, y1, rfl, h0, rfl, hx2, hy2⟩ Q' N kT kF
      have s3 : Same H1 (upd H2 t' (.tup [x1, y1])) := (s1.trans s2).trans (same_new h0)
      have hx3 : (e.fields.map V.str)[i]? = some x1 := hx2
      rw [List.getElem?_map, Option.map_eq_some_iff] at hx3
      obtain ⟨c, hc, rfl⟩ := hx3
      obtain ⟨d, hd1, hd2⟩ := DaL.get hx1 (show xs[i]? = some y1 from hy2)
      refine ⟨t', _, rfl, SqT.of upd_same, rfl, _, _, rfl, _, _, rfl, rfl, rfl, ?_⟩
      refine ⟨_, rfl, _, rfl, rfl, _, rfl, ?_⟩
      by_cases hcp : c = "part"
      · refine goT hcp ⟨_, rfl, kT ?_ _ _ (Same.refl _) ⟨d, hd1, hd2.mono s3⟩⟩
        show (e.fields[i]? == some ("part" : Str)) = true
        rw [hc, hcp]; exact beq_self_eq_true _
      · refine goF hcp (kF ?_ _ (Same.refl _))
        show (e.fields[i]? == some ("part" : Str)) = false
        rw [hc]
        exact beq_eq_false_iff_ne.mpr fun c2 => hcp (Option.some.inj c2)
    · intro H2 acc s2 hacc hla hra
      have s4 : Same H H2 := (e1.trans s1).trans s2
      have hDn : H Dd = none := by
        cases hq : H Dd with
        | none => rfl
        | some o => have := (e1.trans s1) _ _ hq; rw [hD] at this; cases this
      have hpo := e.parts_of
      have hpl : e.parts.length = ((List.range e.fields.length).filter fun i => e.fields[i]? == some ("part" : Str)).length := by
        have := congrArg List.length hpo; simpa using this.symm
      refine q Dd acc H2 hDn s4 hacc (DaL.of (by rw [hla, List.length_map, hpl]) fun j v d hv hd3 => ?_)
      obtain ⟨i, hi, d', h1, h2⟩ := hra j v hv
      have h3 : (((List.range e.fields.length).filter fun i => e.fields[i]? == some ("part" : Str)).map fun i => e.items[i]?)[j]? = (e.parts.map fun x => some x.d)[j]? := by rw [hpo]
      rw [List.getElem?_map, hi, List.getElem?_map] at h3
      rw [List.getElem?_map, Option.map_eq_some_iff] at hd3
      obtain ⟨x0, hx0, rfl⟩ := hd3
      rw [hx0] at h3
      simp only [Option.map_some, Option.some.injEq] at h3
      rw [h1] at h3
      cases h3
      exact h2
end
end Z
set_option Elab.async false
set_option linter.all false
set_option autoImplicit false
set_option maxRecDepth 100000
set_option maxHeartbeats 4000000
namespace Z
open PySem PySem.Spec PyProof.Rows L2
theorem catA_go {K : PySem.W.Frag} {H : Hp} {a b : Addr} {xs ys : List V} {Q : VK} (ha : SqT K H a xs) (hb : SqT K H b ys) (hl : xs.length + ys.length ≤ sizeLine) (q : ∀ p H', Same H H' → SqT K H' p (xs ++ ys) → Q (.ref p) H') : rCatA K (.ref a) (.ref b) H Q :=
  ⟨a, b, xs, ys, rfl, rfl, ha, hb, hl, fun e => q b H (Same.refl _) (by subst e; exact hb), fun _ e => q a H (Same.refl _) (by subst e; simpa using ha), fun _ _ p hp => q p _ (same_new hp) (SqT.of upd_same)⟩
/-- what waits: an expression and the length of its path -/
def Ent (K : PySem.W.Frag) (H : Hp) (v : V) (p : Ex × Nat) : Prop := ∃ t nv pa ps, v = .ref t ∧ SqT K H t [nv, .ref pa] ∧ Da K H nv p.1.d ∧ p.1.wf = true ∧ SqT K H pa ps ∧ ps.length = p.2
theorem Ent.mono {K : PySem.W.Frag} {H H' : Hp} {v : V} {p : Ex × Nat} (e : SameT H H') (h : Ent K H v p) : Ent K H' v p := by
  obtain ⟨t, nv, pa, ps, h1, h2, h3, h4, h5, h6⟩ := h
  exact ⟨t, nv, pa, ps, h1, sameT_t e h2, Da.monoT e (Ex.pure _ h4) h3, h4, sameT_t e h5, h6⟩
inductive Ents (K : PySem.W.Frag) (H : Hp) : List V → List (Ex × Nat) → Prop
  | nil : Ents K H [] []
  | cons {v : V} {p : Ex × Nat} {ws : List V} {es : List (Ex × Nat)} : Ent K H v p → Ents K H ws es → Ents K H (v :: ws) (p :: es)
theorem Ents.mono {K : PySem.W.Frag} {H H' : Hp} (e : SameT H H') : ∀ {ws : List V} {es : List (Ex × Nat)}, Ents K H ws es → Ents K H' ws es
  | _, _, .nil => .nil
  | _, _, .cons a b => .cons (a.mono e) (Ents.mono e b)
theorem Ents.len {K : PySem.W.Frag} {H : Hp} : ∀ {ws : List V} {es : List (Ex × Nat)}, Ents K H ws es → ws.length = es.length
  | _, _, .nil => rfl
  | _, _, .cons _ b => by simp [Ents.len b]
theorem Ents.last {K : PySem.W.Frag} {H : Hp} : ∀ {ws : List V} {es : List (Ex × Nat)}, Ents K H ws es → ws ≠ [] → ∃ ws' v es' p, ws = ws' ++ [v] ∧ es = es' ++ [p] ∧ Ents K H ws' es' ∧ Ent K H v p
  | _, _, .nil, h => absurd rfl h
  | _, _, .cons (ws := l1) (es := l2) (v := a) (p := b) x y, _ => by
    by_cases h : l1 = []
    · subst h
      cases y
      exact ⟨[], a, [], b, rfl, rfl, .nil, x⟩
    · obtain ⟨ws', v, es', p, rfl, rfl, h3, h4⟩ := Ents.last y h
      exact ⟨a :: ws', v, b :: es', p, rfl, rfl, .cons x h3, h4⟩
theorem Ents.add {K : PySem.W.Frag} {H : Hp} {v : V} {p : Ex × Nat} : ∀ {ws : List V} {es : List (Ex × Nat)}, Ents K H ws es → Ent K H v p → Ents K H (ws ++ [v]) (es ++ [p])
  | _, _, .nil, h => .cons h .nil
  | _, _, .cons a b, h => .cons a (Ents.add b h)
def sumN (es : List (Ex × Nat)) : Nat := (es.map fun p => p.1.nodes).sum
theorem sumN_app (a b : List (Ex × Nat)) : sumN (a ++ b) = sumN a + sumN b := by simp [sumN]
def spFault (K : PySem.W.Frag) : Sp := fun vs H Q _ => ∃ v e, vs = [v, .str "part", .int 40, .int 8] ∧ Da K H v (Ex.d e) ∧ e.wf = true ∧ e.nodes ≤ 40 ∧ e.levels ≤ 8 ∧ ∀ H', Same H H' → Q .non H'
def spFaultE (K : PySem.W.Frag) : Sp := fun vs H Q _ => ∃ v e, vs = [v] ∧ Da K H v (Ex.d e) ∧ e.wf = true ∧ e.nodes ≤ 40 ∧ e.levels ≤ 8 ∧ ∀ H', Same H H' → Q .non H'
theorem l2k : ∀ n : Nat, n ≤ 1000 → n ≤ sizeLine := fun n h => Nat.le_trans h (by decide)
section
variable {P : Program} {w : World} {K : PySem.W.Frag} {mg : Str → Option Value} {base : Heap}
theorem kn_first_fault (D : Def0 K mg "first_fault" (top 38)) (T : TxtE K w mg) (F_has_form : Kn P w K mg base CX0 "has_form" 3 ["node", "inner"] [] (spForm K)) (F_nodes_inside : Kn P w K mg base CX0 "nodes_inside" 2 ["node", "inner"] [] (spInside K)) : Kn P w K mg base CX0 "first_fault" 4 ["tree", "inner", "most_nodes", "most_levels"] [] (spFault K) := by
  obtain ⟨f, fd, F, m⟩ := D
  have sc_ : FnScope ["tree", "inner", "most_nodes", "most_levels", "waiting", "nodes", "levels", "node", "path", "inside", "k"] ["tree", "inner", "most_nodes", "most_levels"] (defScope (top 38)) := ⟨rfl, rfl, rfl, by decide +kernel, rfl, by decide +kernel, by decide +kernel⟩
  refine kn_of F m (F.ok sc_ (fun vs H Q E h => ?_) (fun cdv A outer s H vs Q E hr h => ?_)) (F.bindsN fun _ _ _ _ _ _ us hl => match us, hl with | [_, _, _, _], _ => rfl)
  · obtain ⟨v, e, rfl, _⟩ := h; rfl
  · obtain ⟨v, e0, rfl, hd, hw, hN, hL, q⟩ := h
    refine ⟨_, PSs.nox (pss_cons (ps_set (i := 4) sc_.nd rfl (by first | exact Or.inl rfl | exact Or.inr rfl) (pe_lst (pa_cons (pe_tup (pa_cons (pv 0) (pa_cons (pe_tup pa_nil) pa_nil))) pa_nil)))
      (pss_cons (ps_set (i := 5) sc_.nd rfl (by first | exact Or.inl rfl | exact Or.inr rfl) pe_int)
      (pss_cons (ps_set (i := 6) sc_.nd rfl (by first | exact Or.inl rfl | exact Or.inr rfl) pe_int)
      (pss_cons (ps_while PassesOwn.never (pt_cmpR op_gt (pe_callB (k_len (K := K)) (by rfl) T.z_len (by decide +kernel) (pa_cons (pv 4) pa_nil)) pe_int (nomark _)) (pss_cons (ps_asg (k_bm0 (K := K) PySem.F.plainAttrs_list PySem.F.slot_list_pop PySem.F.type_list_pop mt_pop (pv 4)) (k_pgT (K := K) (pgs_cons (pg_name (i := 7) sc_.nd rfl (by first | exact Or.inl rfl | exact Or.inr rfl)) (pgs_cons (pg_name (i := 8) sc_.nd rfl (by first | exact Or.inl rfl | exact Or.inr rfl)) pgs_nil))))
      (pss_cons (ps_if (pt_not (pt_val (pe_own F_has_form hr (by first | decide | omega | (simp only [Nat.add_eq]; omega)) pass0 (pa_cons (pv 7) (pa_cons (pv 1) pa_nil))))) (pss_one (ps_ret (pv 8))) pss_nil)
      (pss_cons (ps_aug (i := 5) sc_.nd rfl (by first | exact Or.inl rfl | exact Or.inr rfl) pe_int ip_add)
      (pss_cons (ps_set (i := 6) sc_.nd rfl (by first | exact Or.inl rfl | exact Or.inr rfl) (pe_callB (call_max2 rfl) (by rfl) T.z_max (by decide +kernel) (pa_cons (pv 6) (pa_cons (pe_op op_add (pe_callB (k_len (K := K)) (by rfl) T.z_len (by decide +kernel) (pa_cons (pv 8) pa_nil)) pe_int) pa_nil))))
      (pss_cons (ps_set (i := 9) sc_.nd rfl (by first | exact Or.inl rfl | exact Or.inr rfl) (pe_own F_nodes_inside hr (by first | decide | omega | (simp only [Nat.add_eq]; omega)) pass0 (pa_cons (pv 7) (pa_cons (pv 1) pa_nil))))
      (pss_one (ps_for PassesOwn.never rfl (pi_revR (by rfl) T.z_reversed (prg_1 (by rfl) T.z_range (pe_callB (k_len (K := K)) (by rfl) T.z_len (by decide +kernel) (pa_cons (pv 9) pa_nil)))) (pg_name (i := 10) sc_.nd rfl (by first | exact Or.inl rfl | exact Or.inr rfl))
        (pss_one (ps_expr (k_bm (K := K) PySem.F.plainAttrs_list PySem.F.slot_list_append PySem.F.type_list_append mt_append (pv 4) (pa_cons (pe_tup (pa_cons (pe_ix (k_ixL (K := K)) (pv 9) (pv 10) (fun _ _ => rfl)) (pa_cons (pe_op (k_catA (K := K)) (pv 8) (pe_tup (pa_cons (pv 10) pa_nil))) pa_nil))) pa_nil))))))))))))
      (pss_one (ps_ret (pe_ifExp (PW.pt (pw_or (pt_cmpR op_gt (pv 5) (pv 2) (nomark _)) (pw_or1 (pt_cmpR op_gt (pv 6) (pv 3) (nomark _))))) (pe_tup pa_nil) pe_non))))))), ?_⟩
    refine ⟨_, rfl, l2k 0 (by decide), fun p0 hp0 => ⟨l2k 2 (by decide), fun t0 ht0 => ⟨l2k 1 (by decide), fun wl hwl => ?_⟩⟩⟩
    have s1 := same_new hp0 (o := .tup [])
    have s2 := same_new ht0 (o := .tup [v, .ref p0])
    have hwn : H wl = none := by
      cases hq : H wl with
      | none => rfl
      | some o => have := (s1.trans s2) _ _ hq; rw [hwl] at this; cases this
    have sT0 : SameT (upd (upd H p0 (.tup [])) t0 (.tup [v, .ref p0])) (upd (upd (upd H p0 (.tup [])) t0 (.tup [v, .ref p0])) wl (.lst [.ref t0])) := Same.t (same_new hwl)
    refine ⟨fun m σ H' => ∃ es ws nd lv o7 o8 o9 o10, m = sumN es ∧ σ = [some v, some (.str "part"), some (.int 40), some (.int 8), some (.ref wl), some (.int ((nd : Nat) : Int)), some (.int ((lv : Nat) : Int)), o7, o8, o9, o10] ∧ Same H H' ∧
      H' wl = some (.lst ws) ∧ Ents K H' ws es ∧ nd + sumN es = e0.nodes ∧ lv ≤ e0.levels ∧ ∀ p ∈ es, p.2 + p.1.levels ≤ e0.levels, ⟨_, [(e0, 0)], [.ref t0], 0, 0, none, none, none, none, rfl, rfl, (s1.trans s2).trans (same_new hwl), upd_same, ?_, by simp [sumN], Nat.zero_le _, by simp⟩, ?_⟩
    · refine .cons ⟨t0, v, p0, [], rfl, SqT.of (same_new hwl _ _ upd_same), hd.mono ((s1.trans s2).trans (same_new hwl)), hw, SqT.of ((s2.trans (same_new hwl)) _ _ upd_same), rfl⟩ .nil
    rintro m σ H1 ⟨es, ws, nd, lv, o7, o8, o9, o10, rfl, rfl, e1, hW, hE, hnd, hlv, hes⟩
    refine ⟨_, rfl, wl, ws, rfl, .inl (SqL.of hW), _, _, rfl, rfl, _, rfl, ?_⟩
    refine ite2 (fun c => ?_) (fun c => ?_)
    · have hne : ws ≠ [] := by
        rintro rfl
        simp at c
      obtain ⟨ws', vv, es', ⟨e, l⟩, rfl, rfl, hE', ⟨t, nv, pa, ps, rfl, ht, hnv, hwf, hpa, hpl⟩⟩ := Ents.last hE hne
      refine ⟨fun σ' H' => ∃ m', m' < sumN (es' ++ [(e, l)]) ∧ ∃ es ws nd lv o7 o8 o9 o10, m' = sumN es ∧ σ' = [some v, some (.str "part"), some (.int 40), some (.int 8), some (.ref wl), some (.int ((nd : Nat) : Int)), some (.int ((lv : Nat) : Int)), o7, o8, o9, o10] ∧ Same H H' ∧
        H' wl = some (.lst ws) ∧ Ents K H' ws es ∧ nd + sumN es = e0.nodes ∧ lv ≤ e0.levels ∧ ∀ p ∈ es, p.2 + p.1.levels ≤ e0.levels, fun _ _ h => h, ?_⟩
      have hsN : sumN (es' ++ [(e, l)]) = sumN es' + e.nodes := by rw [sumN_app]; simp [sumN]
      have hle := hes (e, l) (by simp)
      simp only at hle
      have sTp : SameT H1 (upd H1 wl (.lst (ws' ++ [V.ref t]).dropLast)) := sameT_list hW
      have e2 : Same H (upd H1 wl (.lst (ws' ++ [V.ref t]).dropLast)) := same_app e1 hwn
      refine ⟨_, rfl, .inl ⟨rfl, _, SqL.of hW⟩, wl, _, .ref t, rfl, rfl, hW, (by simp), t, _, rfl, sameT_t sTp ht, rfl, _, _, rfl, _, _, rfl, rfl, ?_⟩
      refine ⟨_, rfl, _, rfl, nv, e, rfl, Da.monoT sTp (Ex.pure _ hwf) hnv, hwf, fun H2 e3 => ⟨_, rfl, ?_⟩⟩
      refine iteF ?_
      refine ⟨_, rfl, _, _, rfl, rfl, ?_⟩
      have hpa2 : SqT K H2 pa ps := same_t e3 (sameT_t sTp hpa)
      refine ⟨_, rfl, _, rfl, pa, ps, rfl, .inr hpa2, _, _, rfl, rfl, _, _, rfl, ?_⟩
      refine ⟨_, rfl, _, rfl, nv, e, rfl, (Da.monoT sTp (Ex.pure _ hwf) hnv).mono e3, hwf, fun il iw H3 hil e4 hI hIw => ?_⟩
      have hW3 : H3 wl = some (.lst ws') := by
        have := (e3.trans e4) _ _ (upd_same (H := H1) (a := wl))
        rw [this]; simp
      have hilw : il ≠ wl := by
        rintro rfl
        have := e3 _ _ (upd_same (H := H1) (a := il))
        rw [hil] at this; cases this
      have sT3 : SameT H1 H3 := sTp.trans (Same.t (e3.trans e4))
      have hilen : iw.length = e.parts.length := by rw [hIw.length, List.length_map]
      have hpl3 := e.parts_le
      refine ⟨_, rfl, il, iw, rfl, .inl (SqL.of hI), _, rfl, by decide, by decide, by omega, by omega, ?_⟩
      have hlm : (if ((ps.length : Nat) : Int) + 1 > (lv : Int) then ((ps.length : Nat) : Int) + 1 else (lv : Int)) = ((max lv (l + 1) : Nat) : Int) := by
        rw [hpl]; split <;> omega
      have hn0 : ((((iw.length : Nat) : Int) - 0).toNat) = e.parts.length := by omega
      refine for_it (walk_rangeC (n := (((iw.length : Nat) : Int) - 0).toNat)) (fun i σ H' => ∃ ws2 o10, σ = [some v, some (.str "part"), some (.int 40), some (.int 8), some (.ref wl), some (.int ((nd + 1 : Nat) : Int)), some (.int ((max lv (l + 1) : Nat) : Int)), some nv, some (.ref pa), some (.ref il), o10] ∧ Same H H' ∧ SameT H3 H' ∧
        H' wl = some (.lst ws2) ∧ H' il = some (.lst iw) ∧ Ents K H' ws2 (es' ++ (e.parts.reverse.take i).map fun x => (x, l + 1))) ⟨ws', o10, ?_, e2.trans (e3.trans e4), SameT.refl _, hW3, hI, ?_⟩ (fun _ _ _ _ _ => trivial) ?_ ?_
      · rw [← hlm]; rfl
      · simpa using hE'.mono sT3
      · rintro i x σ H4 H5 hi ⟨ws2, o, rfl, e5, sT5, hW5, hI5, hE5⟩ ⟨rfl, rfl⟩
        rw [hn0] at hi
        have hwl5 : ws2.length < 1000 := by
          have h1 := hE5.len
          simp only [List.length_append, List.length_map, List.length_take, List.length_reverse] at h1
          have h2 : ∀ L : List (Ex × Nat), L.length ≤ sumN L := fun L => by
            induction L with
            | nil => simp [sumN]
            | cons a L ih => simp only [sumN, List.map_cons, List.sum_cons, List.length_cons] at ih ⊢; have := a.1.nodes_pos; omega
          have h3 := h2 es'
          omega
        have hj : e.parts.length - 1 - i < e.parts.length := by omega
        have hx0 : e.parts[e.parts.length - 1 - i]? = some e.parts[e.parts.length - 1 - i] := List.getElem?_eq_getElem hj
        obtain ⟨xv, hxv, hxd⟩ := DaL.get' (i := e.parts.length - 1 - i) (d := (e.parts[e.parts.length - 1 - i]).d) hIw (by rw [List.getElem?_map, hx0]; rfl)
        have hxm : e.parts[e.parts.length - 1 - i] ∈ e.parts := List.getElem_mem hj
        have hxw := Ex.wf_part hwf hxm
        refine ⟨_, rfl, .inl ⟨rfl, _, SqL.of hW5⟩, ?_⟩
        refine ⟨_, rfl, _, rfl, il, iw, _, xv, rfl, rfl, SqL.of hI5, ?_, ?_⟩
        · rw [show (0 : Int) + ((((((iw.length : Nat) : Int) - 0).toNat : Nat)) : Int) - 1 + ((i : Nat) : Int) * (-1) = ((e.parts.length - 1 - i : Nat) : Int) by rw [hn0]; omega]
          exact atI_nat hxv
        refine ⟨_, rfl, _, rfl, l2k 1 (by decide), fun t1 ht1 => ?_⟩
        have s6 := same_new ht1 (o := .tup [.int ((0 : Int) + ((((((iw.length : Nat) : Int) - 0).toNat : Nat)) : Int) - 1 + ((i : Nat) : Int) * (-1))])
        have hpa5 : SqT K H5 pa ps := sameT_t sT5 (same_t e4 hpa2)
        refine catA_go (same_t s6 hpa5) (SqT.of upd_same) (by rw [hpl]; exact l2k _ (by simp; omega)) fun pp H6 e7 hpp => ?_
        refine ⟨l2k 2 (by decide), fun t2 ht2 => ?_⟩
        have s8 := same_new ht2 (o := .tup [xv, .ref pp])
        have s9 := (s6.trans e7).trans s8
        have hW9 := s9 _ _ hW5
        refine ⟨wl, ws2, _, rfl, rfl, hW9, Nat.lt_of_lt_of_le hwl5 (l2k _ (Nat.le_refl _)), ?_⟩
        have sT10 : SameT H5 (upd (upd H6 t2 (.tup [xv, .ref pp])) wl (.lst (ws2 ++ [.ref t2]))) := (Same.t s9).trans (sameT_list hW9)
        have sT11 : SameT (upd H6 t2 (.tup [xv, .ref pp])) (upd (upd H6 t2 (.tup [xv, .ref pp])) wl (.lst (ws2 ++ [.ref t2]))) := sameT_list hW9
        refine ⟨ws2 ++ [.ref t2], some _, rfl, same_app (e5.trans s9) hwn, sT5.trans sT10, upd_same, by rw [upd_ne hilw]; exact s9 _ _ hI5, ?_⟩
        have htk : (e.parts.reverse.take (i + 1)) = (e.parts.reverse.take i) ++ [e.parts[e.parts.length - 1 - i]] := by
          rw [List.take_succ, List.getElem?_reverse (by omega), hx0]; rfl
        rw [htk, List.map_append, ← List.append_assoc]
        refine Ents.add (hE5.mono sT10) ⟨t2, xv, pp, _, rfl, sameT_t sT11 (SqT.of upd_same), Da.monoT (sT5.trans sT10) (Ex.pure _ hxw) hxd, hxw, sameT_t sT11 (same_t s8 hpp), ?_⟩
        simp [hpl]
      · rintro σ H4 ⟨ws2, o, rfl, e5, sT5, hW5, hI5, hE5⟩
        rw [hn0] at hE5
        have htk : e.parts.reverse.take e.parts.length = e.parts.reverse := by rw [List.take_of_length_le (by simp)]
        rw [htk] at hE5
        have hsum : sumN (e.parts.reverse.map fun x => (x, l + 1)) = (e.parts.map Ex.nodes).sum := by
          unfold sumN
          rw [List.map_map]
          show (e.parts.reverse.map Ex.nodes).sum = _
          rw [List.map_reverse, List.sum_reverse]
        have hnp := e.nodes_parts
        refine ⟨sumN (es' ++ e.parts.reverse.map fun x => (x, l + 1)), by rw [sumN_app, hsum, hsN]; omega, _, ws2, nd + 1, max lv (l + 1), _, _, _, _, rfl, rfl, e5, hW5, hE5, by rw [sumN_app, hsum]; rw [hsN] at hnd; omega, ?_, fun p hp => ?_⟩
        · have := e.levels_pos; omega
        · rcases List.mem_append.mp hp with hp | hp
          · exact hes p (by simp [hp])
          · obtain ⟨x, hx, rfl⟩ := List.mem_map.mp hp
            have := Ex.level_part (List.mem_reverse.mp hx)
            show l + 1 + x.levels ≤ _
            omega
    · refine ⟨_, rfl, _, rfl, _, _, rfl, rfl, _, rfl, ?_⟩
      rw [decide_eq_false (show ¬ ((nd : Nat) : Int) > 40 by omega)]
      refine iteF ⟨_, rfl, _, rfl, _, _, rfl, rfl, _, rfl, ?_⟩
      rw [decide_eq_false (show ¬ ((lv : Nat) : Int) > 8 by omega)]
      exact iteF (q _ e1)
end
end Z
set_option Elab.async false
set_option linter.all false
set_option autoImplicit false
set_option maxRecDepth 100000
set_option maxHeartbeats 4000000
namespace Z
open PySem PySem.Spec PyProof.Rows L2
theorem putK_new {acc : List (Key × V)} {k : Key} {v : V} (h : ∀ p ∈ acc, p.1 ≠ k) : putK acc k v = acc ++ [(k, v)] := by
  unfold putK
  rw [if_neg]
  intro c
  obtain ⟨p, hp, h1⟩ := List.any_eq_true.mp c
  exact h p hp (of_decide_eq_true h1)
def spKinds (K : PySem.W.Frag) : Sp := fun vs H Q _ => ∃ v cols, vs = [v] ∧ Da K H v (.tuple (colsD cols)) ∧ (cols.map (·.1)).Nodup ∧ cols.length ≤ 4000 ∧ ∀ p H', Same H H' → H' p = some (.dK (kvsOf cols)) → Q (.ref p) H'
/-- an expression that fits a schema -/
def FitE (cols : List (Str × Str)) (e : Ex) (k : Str) : Prop := e.wf = true ∧ e.nodes ≤ 40 ∧ e.levels ≤ 8 ∧ kindE (kindsIn cols) e = some k ∧ e.bd 1
def spKindOf (K : PySem.W.Frag) : Sp := fun vs H Q _ => ∃ v u e cols k, vs = [v, u] ∧ Da K H v (Ex.d e) ∧ Da K H u (.tuple (colsD cols)) ∧ colsOk cols ∧ FitE cols e k ∧ ∀ H', Same H H' → Q (.str k) H'
def gSw {α : Type} : List α → List α → List α
  | [], [a, b] => [b, a]
  | _, _ => []
section
variable {P : Program} {w : World} {K : PySem.W.Frag} {mg : Str → Option Value} {base : Heap}
theorem kn_expression_fault (D : Def0 K mg "expression_fault" (top 39)) (T : TxtE K w mg) (F_first_fault : Kn P w K mg base CX0 "first_fault" 4 ["tree", "inner", "most_nodes", "most_levels"] [] (spFault K)) : Kn P w K mg base CX0 "expression_fault" 5 ["value"] [] (spFaultE K) := by
  obtain ⟨f, fd, F, m⟩ := D
  have sc_ : FnScope ["value"] ["value"] (defScope (top 39)) := ⟨rfl, rfl, rfl, by decide +kernel, rfl, by decide +kernel, by decide +kernel⟩
  refine kn_of F m (F.ok sc_ (fun vs H Q E h => ?_) (fun cdv A outer s H vs Q E hr h => ?_)) (F.bindsN fun _ _ _ _ _ _ us hl => match us, hl with | [_], _ => rfl)
  · obtain ⟨v, e, rfl, _⟩ := h; rfl
  · obtain ⟨v, e, rfl, hd, hw, hN, hL, q⟩ := h
    refine ⟨_, PSs.nox (pss_one (ps_ret (pe_own F_first_fault hr (by first | decide | omega | (simp only [Nat.add_eq]; omega)) pass0 (pa_cons (pv 0) (pa_cons pe_str (pa_cons (pe_gv T.c_EXPRESSION_NODES) (pa_cons (pe_gv T.c_EXPRESSION_LEVELS) pa_nil))))))), ?_⟩
    exact ⟨_, rfl, v, e, rfl, hd, hw, hN, hL, q⟩
theorem kn_check_expression (D : Def0 K mg "check_expression" (top 40)) (T : TxtE K w mg) (F_expression_fault : Kn P w K mg base CX0 "expression_fault" 5 ["value"] [] (spFaultE K)) : Kn P w K mg base CX0 "check_expression" 6 ["expression"] [] (spFaultE K) := by
  obtain ⟨f, fd, F, m⟩ := D
  have sc_ : FnScope ["expression", "path"] ["expression"] (defScope (top 40)) := ⟨rfl, rfl, rfl, by decide +kernel, rfl, by decide +kernel, by decide +kernel⟩
  refine kn_of F m (F.ok sc_ (fun vs H Q E h => ?_) (fun cdv A outer s H vs Q E hr h => ?_)) (F.bindsN fun _ _ _ _ _ _ us hl => match us, hl with | [_], _ => rfl)
  · obtain ⟨v, e, rfl, _⟩ := h; rfl
  · obtain ⟨v, e, rfl, hd, hw, hN, hL, q⟩ := h
    refine ⟨_, PSs.nox (pss_cons (ps_set (i := 1) sc_.nd rfl (by first | exact Or.inl rfl | exact Or.inr rfl) (pe_own F_expression_fault hr (by first | decide | omega | (simp only [Nat.add_eq]; omega)) pass0 (pa_cons (pv 0) pa_nil)))
      (pss_one (ps_if (pt_cmpR op_notN (pv 1) pe_non (nomark _)) (pss_one ps_never) pss_nil))), ?_⟩
    refine ⟨_, rfl, v, e, rfl, hd, hw, hN, hL, fun H1 e1 => ?_⟩
    refine ⟨_, rfl, rfl, _, rfl, ?_⟩
    exact iteF (q _ e1)
end
end Z
set_option Elab.async false
set_option linter.all false
set_option autoImplicit false
set_option maxRecDepth 100000
set_option maxHeartbeats 4000000
namespace Z
open PySem PySem.Spec PyProof.Rows L2
theorem lookup_nodup {β : Type} : ∀ {l : List (Str × β)} {w : Str} {q : β}, (l.map (·.1)).Nodup → (w, q) ∈ l → l.lookup w = some q
  | [], _, _, _, h => by cases h
  | (a, b) :: l, w, q, nd, h => by
    have nd1 := List.nodup_cons.mp (show (a :: l.map (·.1)).Nodup from nd)
    rw [List.lookup_cons]
    rcases List.mem_cons.mp h with g | g
    · cases g; simp
    · have : w ≠ a := fun c => nd1.1 (List.mem_map.mpr ⟨(w, q), g, c⟩)
      rw [show (w == a) = false from beq_eq_false_iff_ne.mpr this]
      exact lookup_nodup nd1.2 g
/-- an expression of this kind -/
def IsE (cols : List (Str × Str)) (k : Str) (e : Ex) : Prop := e.wf = true ∧ kindE (kindsIn cols) e = some k ∧ e.bd 1
/-- what a column's tuple is -/
theorem col_open {K : PySem.W.Frag} {H : Hp} {y : V} {c : Str × Str} (h : Da K H y (.tuple [.str c.1, .str c.2])) : ∃ r, y = .ref r ∧ SqT K H r [.str c.1, .str c.2] := by
  obtain ⟨r, ys, rfl, g1, g2⟩ := h.tupI
  obtain ⟨y1, zs, rfl, g3, g4⟩ := g2.consI
  obtain ⟨y2, zs2, rfl, g5, g6⟩ := g4.consI
  cases g6.nilI
  cases g3.strI
  cases g5.strI
  exact ⟨r, rfl, g1⟩
theorem scal_flat {d : PyData} (h : scalD d = true) (h2 : smallD d) : flatD d = true := by
  cases d with
  | str z => exact decide_eq_true (Nat.le_trans h2.1 (by decide))
  | _ => first | rfl | cases h
theorem da_col {K : PySem.W.Frag} {H : Hp} {t : Addr} {n : Str} (h : SqT K H t [.str "col", .str n]) (hn : nameS n = true) : Da K H (.ref t) (Ex.col n).d :=
  .tup h (.cons (.str _ (by decide +kernel)) (.cons (.str _ (Nat.le_trans (nameS_small hn).1 (by decide))) .nil))
def spLeaf (K : PySem.W.Frag) : Sp := fun vs H Q _ => ∃ p hv cols k, vs = [.ref p, hv, .str k] ∧ H p = some (Pool p) ∧ Da K H hv (.tuple (colsD cols)) ∧ colsOk cols ∧ kindS k = true ∧
  ∀ v e H', IsE cols k e → e.levels ≤ 1 → e.nodes ≤ 1 → Same H H' → Da K H' v (Ex.d e) → Q v H'
section
variable {P : Program} {w : World} {K : PySem.W.Frag} {mg : Str → Option Value} {base : Heap}
theorem kn__law_leaf (D : Def0 K mg "_law_leaf" (top 58)) (T : TxtE K w mg) (F__law_draw : Kn P w K mg base CX0 "_law_draw" 1 ["pool", "many"] [] spDraw) (F__law_worth : Kn P w K mg base CX0 "_law_worth" 2 ["pool", "kind_here"] [] (spWorth K)) : Kn P w K mg base CX0 "_law_leaf" 3 ["pool", "heads", "kind_here"] [] (spLeaf K) := by
  obtain ⟨f, fd, F, m⟩ := D
  have sc_ : FnScope ["pool", "heads", "kind_here", "some", "call", "one_kind"] ["pool", "heads", "kind_here"] (defScope (top 58)) := ⟨rfl, rfl, rfl, by decide +kernel, rfl, by decide +kernel, by decide +kernel⟩
  refine kn_of F m (F.ok sc_ (fun vs H Q E h => ?_) (fun cdv A outer s H vs Q E hr h => ?_)) (F.bindsN fun _ _ _ _ _ _ us hl => match us, hl with | [_, _, _], _ => rfl)
  · obtain ⟨p, hv, cols, k, rfl, _⟩ := h; rfl
  · obtain ⟨p, hv, cols, k, rfl, hp, hh, hc, hk, q⟩ := h
    refine ⟨_, PSs.nox (pss_cons (ps_setLc (i := 3) (own := [("call", 4), ("one_kind", 5)]) (g := gTup K 2 (gCons (gName 4) (gCons (gName 5) gNil))) (by rfl) sc_.nd rfl rfl (sw_true rfl rfl rfl (by decide +kernel)) (k_tup (K := K) (pv 1)) (blkOk_by (N := ["pool", "heads", "kind_here", "some", "call", "one_kind"]) (sc := defScope (top 58)) (by decide +kernel)) (fun _ _ _ _ _ => (k_pgT (K := K) (pgs_cons (pg_name (i := 4) sc_.nd rfl (by first | exact Or.inl rfl | exact Or.inr rfl)) (pgs_cons (pg_name (i := 5) sc_.nd rfl (by first | exact Or.inl rfl | exact Or.inr rfl)) pgs_nil)))) (fun _ _ _ _ _ => (pts_one (pt_cmpR op_eq (pv 5) (pv 2) (nomark _)))) (fun _ _ _ _ _ => (pv 4)))
      (pss_cons (ps_if (PW.pt (pw_and (pt_cmpR (k_neD (K := K) hr.units) (pv 3) (pe_lst pa_nil) (nomark _)) (pw_and1 (pt_cmpR op_gt (pe_own F__law_draw hr (by first | decide | omega | (simp only [Nat.add_eq]; omega)) pass0 (pa_cons (pv 0) (pa_cons pe_int pa_nil))) pe_int (nomark _))))) (pss_one (ps_ret (pe_tup (pa_cons pe_str (pa_cons (pe_ix (k_ixL (K := K)) (pv 3) (pe_own F__law_draw hr (by first | decide | omega | (simp only [Nat.add_eq]; omega)) pass0 (pa_cons (pv 0) (pa_cons (pe_callB (k_len (K := K)) (by rfl) T.z_len (by decide +kernel) (pa_cons (pv 3) pa_nil)) pa_nil))) (fun _ _ => rfl)) pa_nil))))) pss_nil)
      (pss_one (ps_ret (pe_tup (pa_cons pe_str (pa_cons (pv 2) (pa_cons (pe_own F__law_worth hr (by first | decide | omega | (simp only [Nat.add_eq]; omega)) pass0 (pa_cons (pv 0) (pa_cons (pv 2) pa_nil))) pa_nil)))))))), ?_⟩
    obtain ⟨a, xs, rfl, hs, hx⟩ := hh.tupI
    have hlen : xs.length = cols.length := by rw [hx.length]; simp [colsD]
    have fin : ∀ H1 (o : Option V), Same H H1 → L2.tRet (tTup (tCons (tC (.str "value")) (tCons (tVar 2) (tCons (tCall (spWorth K) [] E0 (tCons (tVar 0) (tCons (tVar 2) tNil))) tNil)))) { nx := fun _ H' => Q .non H', rt := Q } [some (.ref p), some (.ref a), some (.str k), o, none, none] H1 := by
      intro H1 o e1
      refine ⟨_, rfl, _, rfl, _, rfl, p, k, rfl, e1 _ _ hp, hk, fun e0 H2 h1 h2 h3 e2 => ⟨l2k 3 (by decide), fun t ht => ?_⟩⟩
      have s3 := same_new ht (o := .tup [.str "value", .str k, toV e0])
      refine q _ (.val k e0) _ ⟨by simp only [Ex.wf]; rw [hk, h1, scal_flat h2 h3]; rfl, rfl, small_bd h3⟩ (Nat.le_refl _) (Nat.le_refl _) ((e1.trans e2).trans s3) ?_
      exact .tup (SqT.of upd_same) (.cons (.str _ (by decide +kernel)) (.cons (.str _ (kind_ok hk).1) (.cons (toV_da h2 h3) .nil)))
    refine ⟨_, rfl, a, rfl, ⟨_, hs⟩, fun Dd hD => lc_okF (walk_tup (K := K) (a := a) (xs := xs)) (fun i => (cols[i]?.map (·.2)) == some k) (fun i y H => ∃ n, (n, k) ∈ cols ∧ y = .str n) hD (by rw [hlen]; exact Nat.lt_of_le_of_lt hc.2.1 (by decide)) (fun H1 e1 => same_t e1 hs) (fun _ _ _ _ _ _ h => h) (fun _ _ _ _ h => by rw [h.1]; exact Same.refl _) ?_ ?_⟩
    · rintro i x H1 H' hi s1 ⟨rfl, hxi⟩ Q' N kT kF
      obtain ⟨d, hd1, hd2⟩ := DaL.get hx hxi
      rw [colsD, List.getElem?_map, Option.map_eq_some_iff] at hd1
      obtain ⟨c, hcc, rfl⟩ := hd1
      obtain ⟨r, rfl, g1⟩ := col_open hd2
      refine ⟨r, _, rfl, same_t s1 g1, rfl, _, _, rfl, _, _, rfl, rfl, rfl, ?_⟩
      refine ⟨_, rfl, _, rfl, rfl, _, rfl, ?_⟩
      by_cases hk2 : c.2 = k
      · refine goT hk2 ⟨_, rfl, kT ?_ _ _ (Same.refl _) ⟨c.1, ?_, rfl⟩⟩
        · rw [hcc, ← hk2]; exact beq_self_eq_true _
        · rw [← hk2]; exact List.mem_of_getElem? hcc
      · refine goF hk2 (kF ?_ _ (Same.refl _))
        rw [hcc]; exact beq_eq_false_iff_ne.mpr fun e => hk2 (Option.some.inj e)
    · intro H1 acc s1 hacc hla hra
      obtain ⟨ns, rfl, hns⟩ := strs_of (Q := fun z => (z, k) ∈ cols) (fun i y hy => by
        obtain ⟨_, _, n, h1, h2⟩ := hra i y hy
        exact ⟨n, h2, h1⟩)
      have hnok : ∀ z ∈ ns, nameS z = true := fun z hz => (hc.2.2.1 _ (hns z hz)).1
      refine ⟨_, rfl, l2k 0 (by decide), fun p1 hp1 => ?_⟩
      have e1 : Same H1 (upd H1 p1 (.lst [])) := same_new hp1
      have e01 := s1.trans e1
      have d1 : Da K (upd H1 p1 (.lst [])) (.ref Dd) (.list (ns.map PyData.str)) := .lst (SqL.of (e1 _ _ hacc)) (da_strs fun z hz => Nat.le_trans (nameS_small (hnok z hz)).1 (by decide))
      have d2 : Da K (upd H1 p1 (.lst [])) (.ref p1) (.list (([] : List Str).map PyData.str)) := .lst (SqL.of (by rw [upd_same])) .nil
      refine neD_go d1 d2 (shaped_strs fun z hz => (nameS_small (hnok z hz)).2) (shaped_strs fun z hz => by cases hz) ⟨_, rfl, ?_⟩
      rw [eqv_strs]
      by_cases hne : ns = []
      · rw [decide_eq_true hne]
        exact iteF (fin _ _ e01)
      · rw [decide_eq_false hne]
        refine iteT ⟨_, rfl, p, 3, rfl, e01 _ _ hp, by decide, by decide, fun d H2 hd0 hd1 e2 => ⟨_, _, rfl, rfl, _, rfl, ?_⟩⟩
        have e02 := e01.trans e2
        refine ite2 (fun _ => ?_) (fun _ => fin _ _ e02)
        have hDd2 : SqL K H2 Dd (ns.map V.str) := SqL.of ((e1.trans e2) _ _ hacc)
        have hpos : 1 ≤ ns.length := by
          cases ns with
          | nil => exact absurd rfl hne
          | cons a l => simp
        have hbig : ns.length ≤ 4000 := by
          have h1 := List.length_filter_le (fun i => (cols[i]?.map (·.2)) == some k) (List.range xs.length)
          rw [← hla] at h1
          simp only [List.length_map, List.length_range] at h1
          have := hc.2.1
          omega
        refine ⟨_, rfl, _, rfl, _, rfl, Dd, _, rfl, .inl hDd2, p, _, rfl, e02 _ _ hp, by rw [List.length_map]; omega, by rw [List.length_map]; omega, fun j H3 hj0 hj1 e3 => ?_⟩
        rw [List.length_map] at hj1
        obtain ⟨n, rfl⟩ : ∃ n : Nat, j = (n : Int) := ⟨j.toNat, by omega⟩
        have hn : n < ns.length := by omega
        refine ⟨Dd, _, _, .str ns[n], rfl, rfl, Same.seq e3 hDd2, atI_nat (by rw [List.getElem?_map, List.getElem?_eq_getElem hn]; rfl), l2k 2 (by decide), fun t ht => ?_⟩
        have hm := hns _ (List.getElem_mem hn)
        exact q _ (.col ns[n]) _ ⟨hnok _ (List.getElem_mem hn), lookup_nodup hc.2.2.2 hm, trivial⟩ (Nat.le_refl _) (Nat.le_refl _) ((e02.trans e3).trans (same_new ht)) (da_col (SqT.of upd_same) (hnok _ (List.getElem_mem hn)))
end
end Z
set_option Elab.async false
set_option linter.all false
set_option autoImplicit false
set_option maxRecDepth 100000
set_option maxHeartbeats 4000000
namespace Z
open PySem PySem.Spec PyProof.Rows L2
def spTree (K : PySem.W.Frag) (n : Nat) : Sp := fun vs H Q _ => ∃ p hv cols k d, vs = [.ref p, hv, .str k, .int d] ∧ H p = some (Pool p) ∧ Da K H hv (.tuple (colsD cols)) ∧ colsOk cols ∧ kindS k = true ∧ d ≤ (n : Int) ∧
  ∀ v e H', IsE cols k e → (e.levels : Int) ≤ max d 1 → Same H H' → Da K H' v (Ex.d e) → Q v H'
def spPair (K : PySem.W.Frag) (n : Nat) : Sp := fun vs H Q _ => ∃ p hv cols z k d, vs = [.ref p, hv, .str z, .str k, .int d] ∧ H p = some (Pool p) ∧ Da K H hv (.tuple (colsD cols)) ∧ colsOk cols ∧ kindS k = true ∧ twosL.contains z = true ∧ 2 ≤ d ∧ d ≤ (n : Int) + 1 ∧
  ∀ v x y H', IsE cols k x → IsE cols k y → (x.levels : Int) ≤ d - 1 → (y.levels : Int) ≤ d - 1 → Same H H' → Da K H' v (Ex.two z x y).d → Q v H'
def spTest (K : PySem.W.Frag) (n : Nat) : Sp := fun vs H Q _ => ∃ p hv cols d y, vs = [.ref p, hv, .int d, .int y] ∧ H p = some (Pool p) ∧ Da K H hv (.tuple (colsD cols)) ∧ colsOk cols ∧ 2 ≤ d ∧ d ≤ (n : Int) + 1 ∧ 2 ≤ y ∧ y < 10 ∧
  ∀ v e H', IsE cols "bool" e → (e.levels : Int) ≤ d → Same H H' → Da K H' v (Ex.d e) → Q v H'
theorem twos_len {z : Str} (h : twosL.contains z = true) : z.length ≤ 1000000 := by
  have h1 : z ∈ twosL := by simpa using h
  have : (twosL.all fun q => decide (q.length ≤ 10)) = true := by decide +kernel
  exact Nat.le_trans (of_decide_eq_true (List.all_eq_true.mp this _ h1)) (by decide)
theorem ones_len {z : Str} (h : onesL.contains z = true) : z.length ≤ 1000000 := by
  have h1 : z ∈ onesL := by simpa using h
  have : (onesL.all fun q => decide (q.length ≤ 10)) = true := by decide +kernel
  exact Nat.le_trans (of_decide_eq_true (List.all_eq_true.mp this _ h1)) (by decide)
/-- an operation of two parts of one kind -/
theorem is_two {cols : List (Str × Str)} {z k r : Str} {x y : Ex} (hz : twosL.contains z = true) (hx : IsE cols k x) (hy : IsE cols k y) (h : kindB z [k, k] = some r) : IsE cols r (.two z x y) := by
  refine ⟨by simp only [Ex.wf]; rw [hz, hx.1, hy.1]; rfl, ?_, hx.2.2, hy.2.2⟩
  simp only [kindE]
  rw [hx.2.1, hy.2.1]; exact h
theorem is_one {cols : List (Str × Str)} {z k r : Str} {x : Ex} (hz : onesL.contains z = true) (hx : IsE cols k x) (h : kindB z [k] = some r) : IsE cols r (.one z x) := by
  refine ⟨by simp only [Ex.wf]; rw [hz, hx.1]; rfl, ?_, hx.2.2⟩
  simp only [kindE]
  rw [hx.2.1]; exact h
def kindsL : List Str := ["int", "text", "bool"]
theorem kind_mem {k : Str} (h : kindS k = true) : k ∈ kindsL := by
  rcases kindS_or h with h | h | h <;> subst h <;> simp [kindsL]
theorem eq_kinds {k : Str} (h : kindS k = true) : kindB "eq" [k, k] = some "bool" ∧ kindB "lt" [k, k] = some "bool" ∧ kindB "le" [k, k] = some "bool" ∧ kindB "else" [k, k] = some k ∧ kindB "there" [k] = some "bool" ∧ kindB "if" ["bool", k, k] = some k := by
  rcases kindS_or h with h | h | h <;> subst h <;> decide +kernel
theorem da_two {K : PySem.W.Frag} {H : Hp} {t : Addr} {z : Str} {a b : V} {x y : Ex} (h : SqT K H t [.str z, a, b]) (hz : twosL.contains z = true) (ha : Da K H a x.d) (hb : Da K H b y.d) : Da K H (.ref t) (Ex.two z x y).d :=
  .tup h (.cons (.str _ (twos_len hz)) (.cons ha (.cons hb .nil)))
theorem da_one {K : PySem.W.Frag} {H : Hp} {t : Addr} {z : Str} {a : V} {x : Ex} (h : SqT K H t [.str z, a]) (hz : onesL.contains z = true) (ha : Da K H a x.d) : Da K H (.ref t) (Ex.one z x).d :=
  .tup h (.cons (.str _ (ones_len hz)) (.cons ha .nil))
section
variable {P : Program} {w : World} {K : PySem.W.Frag} {mg : Str → Option Value} {base : Heap}
theorem kn__law_pair (D : Def0 K mg "_law_pair" (top 60)) (T : TxtE K w mg) (n t : Nat) (F__law_tree : Kn P w K mg base CX0 "_law_tree" t ["pool", "heads", "kind_here", "deep"] [] (spTree K n)) : Kn P w K mg base CX0 "_law_pair" (t + 1) ["pool", "heads", "word", "kind_here", "deep"] [] (spPair K n) := by
  obtain ⟨f, fd, F, m⟩ := D
  have sc_ : FnScope ["pool", "heads", "word", "kind_here", "deep", "mate"] ["pool", "heads", "word", "kind_here", "deep"] (defScope (top 60)) := ⟨rfl, rfl, rfl, by decide +kernel, rfl, by decide +kernel, by decide +kernel⟩
  refine kn_of F m (F.ok sc_ (fun vs H Q E h => ?_) (fun cdv A outer s H vs Q E hr h => ?_)) (F.bindsN fun _ _ _ _ _ _ us hl => match us, hl with | [_, _, _, _, _], _ => rfl)
  · obtain ⟨p, hv, cols, z, k, d, rfl, _⟩ := h; rfl
  · obtain ⟨p, hv, cols, z, k, d, rfl, hp, hh, hc, hk, hz, hd1, hd2, q⟩ := h
    refine ⟨_, PSs.nox (pss_cons (ps_set (i := 5) sc_.nd rfl (by first | exact Or.inl rfl | exact Or.inr rfl) (pe_own F__law_tree hr (by first | decide | omega | (simp only [Nat.add_eq]; omega)) pass0 (pa_cons (pv 0) (pa_cons (pv 1) (pa_cons (pv 3) (pa_cons (pe_op op_sub (pv 4) pe_int) pa_nil))))))
      (pss_one (ps_ret (pe_tup (pa_cons (pv 2) (pa_cons (pe_own F__law_tree hr (by first | decide | omega | (simp only [Nat.add_eq]; omega)) pass0 (pa_cons (pv 0) (pa_cons (pv 1) (pa_cons (pv 3) (pa_cons (pe_op op_sub (pv 4) pe_int) pa_nil))))) (pa_cons (pv 5) pa_nil))))))), ?_⟩
    refine ⟨_, rfl, _, rfl, _, rfl, _, rfl, _, _, rfl, rfl, p, hv, cols, k, d - 1, rfl, hp, hh, hc, hk, by omega, fun v1 y H1 hy hy2 e1 hy3 => ?_⟩
    refine ⟨_, rfl, _, rfl, _, rfl, _, rfl, _, rfl, _, _, rfl, rfl, p, hv, cols, k, d - 1, rfl, e1 _ _ hp, hh.mono e1, hc, hk, by omega, fun v2 x H2 hx hx2 e2 hx3 => ?_⟩
    refine ⟨_, rfl, l2k 3 (by decide), fun tt ht => ?_⟩
    have s3 := same_new ht (o := .tup [.str z, v2, v1])
    exact q _ x y _ hx hy (by omega) (by omega) ((e1.trans e2).trans s3) (da_two (SqT.of upd_same) hz (hx3.mono s3) (hy3.mono (e2.trans s3)))
theorem kn__law_test (D : Def0 K mg "_law_test" (top 61)) (T : TxtE K w mg) (n t : Nat) (F__law_draw : Kn P w K mg base CX0 "_law_draw" 1 ["pool", "many"] [] spDraw) (F__law_tree : Kn P w K mg base CX0 "_law_tree" (t + 1) ["pool", "heads", "kind_here", "deep"] [] (spTree K n)) (F__law_pair : Kn P w K mg base CX0 "_law_pair" (t + 1 + 1) ["pool", "heads", "word", "kind_here", "deep"] [] (spPair K n)) : Kn P w K mg base CX0 "_law_test" (t + 1 + 1 + 1) ["pool", "heads", "deep", "way"] [] (spTest K n) := by
  obtain ⟨f, fd, F, m⟩ := D
  have sc_ : FnScope ["pool", "heads", "deep", "way", "one"] ["pool", "heads", "deep", "way"] (defScope (top 61)) := ⟨rfl, rfl, rfl, by decide +kernel, rfl, by decide +kernel, by decide +kernel⟩
  refine kn_of F m (F.ok sc_ (fun vs H Q E h => ?_) (fun cdv A outer s H vs Q E hr h => ?_)) (F.bindsN fun _ _ _ _ _ _ us hl => match us, hl with | [_, _, _, _], _ => rfl)
  · obtain ⟨p, hv, cols, d, y, rfl, _⟩ := h; rfl
  · obtain ⟨p, hv, cols, d, y, rfl, hp, hh, hc, hd1, hd2, hy1, hy2, q⟩ := h
    refine ⟨_, PSs.nox (pss_cons (ps_set (i := 4) sc_.nd rfl (by first | exact Or.inl rfl | exact Or.inr rfl) (pe_ix (k_ixL (K := K)) (pe_lst (pa_cons pe_str (pa_cons pe_str (pa_cons pe_str pa_nil)))) (pe_own F__law_draw hr (by first | decide | omega | (simp only [Nat.add_eq]; omega)) pass0 (pa_cons (pv 0) (pa_cons pe_int pa_nil))) (fun _ _ => rfl)))
      (pss_cons (ps_if (pt_cmpR (k_in (K := K)) (pv 3) (pe_lst (pa_cons pe_int (pa_cons pe_int pa_nil))) (by rfl)) (pss_one (ps_ret (pe_tup (pa_cons (pe_ix (k_ixL (K := K)) (pe_lst (pa_cons pe_str (pa_cons pe_str pa_nil))) (pe_op op_sub (pv 3) pe_int) (fun _ _ => rfl)) (pa_cons (pe_own F__law_tree hr (by first | decide | omega | (simp only [Nat.add_eq]; omega)) pass0 (pa_cons (pv 0) (pa_cons (pv 1) (pa_cons (pe_ix (k_ixL (K := K)) (pe_lst (pa_cons (pv 4) (pa_cons pe_str pa_nil))) (pe_op op_sub (pv 3) pe_int) (fun _ _ => rfl)) (pa_cons (pe_op op_sub (pv 2) pe_int) pa_nil))))) pa_nil))))) pss_nil)
      (pss_cons (ps_if (pt_cmpR op_lt (pv 3) pe_int (nomark _)) (pss_one (ps_ret (pe_own F__law_pair hr (by first | decide | omega | (simp only [Nat.add_eq]; omega)) pass0 (pa_cons (pv 0) (pa_cons (pv 1) (pa_cons (pe_ix (k_ixL (K := K)) (pe_lst (pa_cons pe_str (pa_cons pe_str pa_nil))) (pe_op op_sub (pv 3) pe_int) (fun _ _ => rfl)) (pa_cons pe_str (pa_cons (pv 2) pa_nil)))))))) pss_nil)
      (pss_one (ps_ret (pe_own F__law_pair hr (by first | decide | omega | (simp only [Nat.add_eq]; omega)) pass0 (pa_cons (pv 0) (pa_cons (pv 1) (pa_cons (pe_ix (k_ixL (K := K)) (pe_lst (pa_cons pe_str (pa_cons pe_str (pa_cons pe_str (pa_cons pe_str pa_nil))))) (pe_op op_sub (pv 3) pe_int) (fun _ _ => rfl)) (pa_cons (pv 4) (pa_cons (pv 2) pa_nil))))))))))), ?_⟩
    refine ⟨l2k 3 (by decide), fun t1 ht1 => ?_⟩
    have e1 := same_new ht1 (o := .lst (kindsL.map V.str))
    refine ⟨_, rfl, p, 3, rfl, e1 _ _ hp, by decide, by decide, fun j H2 hj0 hj1 e2 => ?_⟩
    obtain ⟨j, rfl⟩ : ∃ n : Nat, j = (n : Int) := ⟨j.toNat, by omega⟩
    have hj3 : j < kindsL.length := by show j < 3; omega
    have hone : kindS kindsL[j] = true := List.all_eq_true.mp (by decide +kernel : kindsL.all kindS = true) _ (List.getElem_mem hj3)
    refine ⟨t1, _, _, .str kindsL[j], rfl, rfl, SqL.of (e2 _ _ upd_same), atI_nat (by show (kindsL.map V.str)[j]? = _; rw [List.getElem?_map, List.getElem?_eq_getElem hj3]; rfl), ?_⟩
    generalize hone1 : kindsL[j] = one at hone
    have e12 := e1.trans e2
    refine ⟨_, rfl, l2k 2 (by decide), fun t2 ht2 => ?_⟩
    have e3 := e12.trans (same_new ht2 (o := .lst [.int 2, .int 3]))
    refine ⟨t2, _, rfl, .inl (SqL.of upd_same), rfl, rfl, _, rfl, ?_⟩
    have hp3 := e3 _ _ hp
    have hh3 := hh.mono e3
    have hcase : y = 2 ∨ y = 3 ∨ y = 4 ∨ y = 5 ∨ 6 ≤ y := by omega
    rcases hcase with rfl | rfl | rfl | rfl | h6
    · refine iteT ?_
      refine ⟨l2k 2 (by decide), fun t3 ht3 => ?_⟩
      have e4 := e3.trans (same_new ht3 (o := .lst [.str "there", .str "not"]))
      refine ⟨_, rfl, _, _, rfl, rfl, t3, _, _, .str "there", rfl, rfl, SqL.of upd_same, atI_nat (j := 0) rfl, ?_⟩
      refine ⟨_, rfl, _, rfl, _, rfl, l2k 2 (by decide), fun t4 ht4 => ?_⟩
      have e5 := e4.trans (same_new ht4 (o := .lst [.str one, .str "bool"]))
      refine ⟨_, rfl, _, _, rfl, rfl, t4, _, _, .str one, rfl, rfl, SqL.of upd_same, atI_nat (j := 0) rfl, ?_⟩
      refine ⟨_, rfl, _, _, rfl, rfl, p, hv, cols, one, d - 1, rfl, e5 _ _ hp, hh.mono e5, hc, hone, by omega, fun v x H6 hx hl e6 hx3 => ⟨l2k 2 (by decide), fun t5 ht5 => ?_⟩⟩
      have s7 := same_new ht5 (o := .tup [.str "there", v])
      exact q _ _ _ (is_one (by decide +kernel) hx (eq_kinds hone).2.2.2.2.1) (by simp only [Ex.levels]; omega) ((e5.trans e6).trans s7) (da_one (SqT.of upd_same) (by decide +kernel) (hx3.mono s7))
    · refine iteT ?_
      refine ⟨l2k 2 (by decide), fun t3 ht3 => ?_⟩
      have e4 := e3.trans (same_new ht3 (o := .lst [.str "there", .str "not"]))
      refine ⟨_, rfl, _, _, rfl, rfl, t3, _, _, .str "not", rfl, rfl, SqL.of upd_same, atI_nat (j := 1) rfl, ?_⟩
      refine ⟨_, rfl, _, rfl, _, rfl, l2k 2 (by decide), fun t4 ht4 => ?_⟩
      have e5 := e4.trans (same_new ht4 (o := .lst [.str one, .str "bool"]))
      refine ⟨_, rfl, _, _, rfl, rfl, t4, _, _, .str "bool", rfl, rfl, SqL.of upd_same, atI_nat (j := 1) rfl, ?_⟩
      refine ⟨_, rfl, _, _, rfl, rfl, p, hv, cols, "bool", d - 1, rfl, e5 _ _ hp, hh.mono e5, hc, by decide +kernel, by omega, fun v x H6 hx hl e6 hx3 => ⟨l2k 2 (by decide), fun t5 ht5 => ?_⟩⟩
      have s7 := same_new ht5 (o := .tup [.str "not", v])
      exact q _ _ _ (is_one (by decide +kernel) hx (by decide +kernel)) (by simp only [Ex.levels]; omega) ((e5.trans e6).trans s7) (da_one (SqT.of upd_same) (by decide +kernel) (hx3.mono s7))
    · refine iteF ⟨_, rfl, _, _, rfl, rfl, _, rfl, ?_⟩
      refine iteT ⟨_, rfl, _, rfl, l2k 2 (by decide), fun t3 ht3 => ?_⟩
      have e4 := e3.trans (same_new ht3 (o := .lst [.str "and", .str "or"]))
      refine ⟨_, rfl, _, _, rfl, rfl, t3, _, _, .str "and", rfl, rfl, SqL.of upd_same, atI_nat (j := 0) rfl, _, rfl, p, hv, cols, "and", "bool", d, rfl, e4 _ _ hp, hh.mono e4, hc, by decide +kernel, by decide +kernel, hd1, hd2, fun v x y H6 hx hy hl1 hl2 e6 hv6 => ?_⟩
      exact q _ _ _ (is_two (by decide +kernel) hx hy (by decide +kernel)) (by simp only [Ex.levels]; omega) (e4.trans e6) hv6
    · refine iteF ⟨_, rfl, _, _, rfl, rfl, _, rfl, ?_⟩
      refine iteT ⟨_, rfl, _, rfl, l2k 2 (by decide), fun t3 ht3 => ?_⟩
      have e4 := e3.trans (same_new ht3 (o := .lst [.str "and", .str "or"]))
      refine ⟨_, rfl, _, _, rfl, rfl, t3, _, _, .str "or", rfl, rfl, SqL.of upd_same, atI_nat (j := 1) rfl, _, rfl, p, hv, cols, "or", "bool", d, rfl, e4 _ _ hp, hh.mono e4, hc, by decide +kernel, by decide +kernel, hd1, hd2, fun v x y H6 hx hy hl1 hl2 e6 hv6 => ?_⟩
      exact q _ _ _ (is_two (by decide +kernel) hx hy (by decide +kernel)) (by simp only [Ex.levels]; omega) (e4.trans e6) hv6
    · have hin : inV (.int y) [.int 2, .int 3] = false := by
        simp only [inV, List.any_cons, List.any_nil, eqV, Bool.or_false, Bool.or_eq_false_iff, beq_eq_false_iff_ne]
        omega
      show (if inV (.int y) [.int 2, .int 3] = true then _ else _)
      rw [hin]
      refine iteF ⟨_, rfl, _, _, rfl, rfl, _, rfl, ?_⟩
      rw [decide_eq_false (by omega)]
      refine iteF ⟨_, rfl, _, rfl, l2k 4 (by decide), fun t3 ht3 => ?_⟩
      have e4 := e3.trans (same_new ht3 (o := .lst [.str "eq", .str "lt", .str "le", .str "eq"]))
      have hw4 : ∃ z, atI [V.str "eq", V.str "lt", V.str "le", V.str "eq"] (y - 6) = some (.str z) ∧ twosL.contains z = true ∧ kindB z [one, one] = some "bool" := by
        have h4 : y = 6 ∨ y = 7 ∨ y = 8 ∨ y = 9 := by omega
        have ek := eq_kinds hone
        rcases h4 with rfl | rfl | rfl | rfl
        · exact ⟨"eq", rfl, by decide +kernel, ek.1⟩
        · exact ⟨"lt", rfl, by decide +kernel, ek.2.1⟩
        · exact ⟨"le", rfl, by decide +kernel, ek.2.2.1⟩
        · exact ⟨"eq", rfl, by decide +kernel, ek.1⟩
      obtain ⟨z, hz1, hz2, hz3⟩ := hw4
      refine ⟨_, rfl, _, _, rfl, rfl, t3, _, _, .str z, rfl, rfl, SqL.of upd_same, hz1, _, rfl, _, rfl, p, hv, cols, z, one, d, rfl, e4 _ _ hp, hh.mono e4, hc, hone, hz2, hd1, hd2, fun v x y H6 hx hy hl1 hl2 e6 hv6 => ?_⟩
      exact q _ _ _ (is_two hz2 hx hy hz3) (by simp only [Ex.levels]; omega) (e4.trans e6) hv6
end
end Z
set_option Elab.async false
set_option linter.all false
set_option autoImplicit false
set_option maxRecDepth 100000
set_option maxHeartbeats 4000000
namespace Z
open PySem PySem.Spec PyProof.Rows L2
def intWords : List Str := ["add", "sub", "mul", "div", "mod"]
theorem intWords_ok : (intWords.all fun z => twosL.contains z && decide (kindB z ["int", "int"] = some "int")) = true := by decide +kernel
section
variable {P : Program} {w : World} {K : PySem.W.Frag} {mg : Str → Option Value} {base : Heap}
theorem kn__law_tree (D : Def0 K mg "_law_tree" (top 59)) (Dp : Def0 K mg "_law_pair" (top 60)) (Dt : Def0 K mg "_law_test" (top 61)) (T : TxtE K w mg) (F__law_draw : Kn P w K mg base CX0 "_law_draw" 1 ["pool", "many"] [] spDraw) (F__law_leaf : Kn P w K mg base CX0 "_law_leaf" 3 ["pool", "heads", "kind_here"] [] (spLeaf K)) : ∀ n, Kn P w K mg base CX0 "_law_tree" (3 * n + 4) ["pool", "heads", "kind_here", "deep"] [] (spTree K n) := by
  have sc_ : FnScope ["pool", "heads", "kind_here", "deep", "way", "parts_here", "mate", "word", "one"] ["pool", "heads", "kind_here", "deep"] (defScope (top 59)) := ⟨rfl, rfl, rfl, by decide +kernel, rfl, by decide +kernel, by decide +kernel⟩
  intro n
  induction n with
  | zero =>
    obtain ⟨f, fd, F, m⟩ := D
    refine kn_of F m (F.ok sc_ (fun vs H Q E h => ?_) (fun cdv A outer s H vs Q E hr h => ?_)) (F.bindsN fun _ _ _ _ _ _ us hl => match us, hl with | [_, _, _, _], _ => rfl)
    · obtain ⟨p, hv, cols, k, d, rfl, _⟩ := h; rfl
    · obtain ⟨p, hv, cols, k, d, rfl, hp, hh, hc, hk, hd, q⟩ := h
      refine ⟨_, PSs.nox (pss_cons (ps_if (PW.pt (pw_or (pt_cmpR op_lt (pv 3) pe_int (nomark _)) (pw_or1 (pt_cmpR op_eq (pe_own F__law_draw hr (by first | decide | omega | (simp only [Nat.add_eq]; omega)) pass0 (pa_cons (pv 0) (pa_cons pe_int pa_nil))) pe_int (nomark _))))) (pss_one (ps_ret (pe_own F__law_leaf hr (by first | decide | omega | (simp only [Nat.add_eq]; omega)) pass0 (pa_cons (pv 0) (pa_cons (pv 1) (pa_cons (pv 2) pa_nil)))))) pss_nil) pss_never), ?_⟩
      refine ⟨_, rfl, _, _, rfl, rfl, _, rfl, ?_⟩
      rw [decide_eq_true (show d < 2 by omega)]
      refine iteT (iteT ⟨_, rfl, _, rfl, _, rfl, p, hv, cols, k, rfl, hp, hh, hc, hk, fun v e H1 he hl _ e1 hv1 => q v e H1 he (by omega) e1 hv1⟩)
  | succ n ih =>
    have F__law_tree := ih
    have F__law_pair := kn__law_pair Dp T n (3 * n + 4) ih
    have F__law_test := kn__law_test Dt T n (3 * n + 3) F__law_draw ih F__law_pair
    obtain ⟨f, fd, F, m⟩ := D
    have ok : FnOk P w K mg base CX0 (3 * n + 3 + 1 + 1 + 1 + 1) f fd ["pool", "heads", "kind_here", "deep"] (spTree K (n + 1)) := by
      refine F.ok sc_ (fun vs H Q E h => ?_) (fun cdv A outer s H vs Q E hr h => ?_)
      · obtain ⟨p, hv, cols, k, d, rfl, _⟩ := h; rfl
      · obtain ⟨p, hv, cols, k, d, rfl, hp, hh, hc, hk, hd, q⟩ := h
        refine ⟨_, PSs.nox (pss_cons (ps_if (PW.pt (pw_or (pt_cmpR op_lt (pv 3) pe_int (nomark _)) (pw_or1 (pt_cmpR op_eq (pe_own F__law_draw hr (by first | decide | omega | (simp only [Nat.add_eq]; omega)) pass0 (pa_cons (pv 0) (pa_cons pe_int pa_nil))) pe_int (nomark _))))) (pss_one (ps_ret (pe_own F__law_leaf hr (by first | decide | omega | (simp only [Nat.add_eq]; omega)) pass0 (pa_cons (pv 0) (pa_cons (pv 1) (pa_cons (pv 2) pa_nil)))))) pss_nil)
      (pss_cons (ps_set (i := 4) sc_.nd rfl (by first | exact Or.inl rfl | exact Or.inr rfl) (pe_own F__law_draw hr (by first | decide | omega | (simp only [Nat.add_eq]; omega)) pass0 (pa_cons (pv 0) (pa_cons pe_int pa_nil))))
      (pss_cons (ps_if (pt_cmpR op_eq (pv 4) pe_int (nomark _)) (pss_cons (ps_setLc (i := 5) (own := [("one", 8)]) (g := gName 8) (by rfl) sc_.nd rfl rfl (sw_true rfl rfl rfl (by decide +kernel)) (k_list (K := K) (pe_lst (pa_cons pe_str (pa_cons (pv 2) (pa_cons (pv 2) pa_nil))))) (blkOk_by (N := ["pool", "heads", "kind_here", "deep", "way", "parts_here", "mate", "word", "one"]) (sc := defScope (top 59)) (by decide +kernel)) (fun _ _ _ _ _ => (pg_name (i := 8) sc_.nd rfl (by first | exact Or.inl rfl | exact Or.inr rfl))) (fun _ _ _ _ _ => pts_nil) (fun _ _ _ _ _ => (pe_own F__law_tree hr (by first | decide | omega | (simp only [Nat.add_eq]; omega)) pass0 (pa_cons (pv 0) (pa_cons (pv 1) (pa_cons (pv 8) (pa_cons (pe_op op_sub (pv 3) pe_int) pa_nil)))))))
      (pss_one (ps_ret (pe_tup (pa_cons pe_str (pa_cons (pe_ix (k_ixL (K := K)) (pv 5) pe_int (fun _ _ => rfl)) (pa_cons (pe_ix (k_ixL (K := K)) (pv 5) pe_int (fun _ _ => rfl)) (pa_cons (pe_ix (k_ixL (K := K)) (pv 5) pe_int (fun _ _ => rfl)) pa_nil)))))))) pss_nil)
      (pss_cons (ps_if (pt_cmpR op_eq (pv 4) pe_int (nomark _)) (pss_cons (ps_set (i := 6) sc_.nd rfl (by first | exact Or.inl rfl | exact Or.inr rfl) (pe_own F__law_tree hr (by first | decide | omega | (simp only [Nat.add_eq]; omega)) pass0 (pa_cons (pv 0) (pa_cons (pv 1) (pa_cons (pv 2) (pa_cons (pe_op op_sub (pv 3) pe_int) pa_nil))))))
      (pss_one (ps_ret (pe_tup (pa_cons pe_str (pa_cons (pe_own F__law_tree hr (by first | decide | omega | (simp only [Nat.add_eq]; omega)) pass0 (pa_cons (pv 0) (pa_cons (pv 1) (pa_cons (pv 2) (pa_cons (pe_op op_sub (pv 3) pe_int) pa_nil))))) (pa_cons (pv 6) pa_nil))))))) pss_nil)
      (pss_cons (ps_if (pt_cmpR op_eq (pv 2) pe_str (nomark _)) (pss_cons (ps_if (pt_cmpR op_eq (pv 4) pe_int (nomark _)) (pss_one (ps_ret (pe_tup (pa_cons pe_str (pa_cons (pe_own F__law_tree hr (by first | decide | omega | (simp only [Nat.add_eq]; omega)) pass0 (pa_cons (pv 0) (pa_cons (pv 1) (pa_cons pe_str (pa_cons (pe_op op_sub (pv 3) pe_int) pa_nil))))) pa_nil))))) pss_nil)
      (pss_cons (ps_set (i := 7) sc_.nd rfl (by first | exact Or.inl rfl | exact Or.inr rfl) (pe_ix (k_ixL (K := K)) (pe_lst (pa_cons pe_str (pa_cons pe_str (pa_cons pe_str (pa_cons pe_str (pa_cons pe_str pa_nil)))))) (pe_op op_mod (pv 4) pe_int) (fun _ _ => rfl)))
      (pss_one (ps_ret (pe_own F__law_pair hr (by first | decide | omega | (simp only [Nat.add_eq]; omega)) pass0 (pa_cons (pv 0) (pa_cons (pv 1) (pa_cons (pv 7) (pa_cons pe_str (pa_cons (pv 3) pa_nil)))))))))) pss_nil)
      (pss_cons (ps_if (pt_cmpR op_eq (pv 2) pe_str (nomark _)) (pss_one (ps_ret (pe_own F__law_pair hr (by first | decide | omega | (simp only [Nat.add_eq]; omega)) pass0 (pa_cons (pv 0) (pa_cons (pv 1) (pa_cons pe_str (pa_cons pe_str (pa_cons (pv 3) pa_nil)))))))) pss_nil)
      (pss_one (ps_ret (pe_own F__law_test hr (by first | decide | omega | (simp only [Nat.add_eq]; omega)) pass0 (pa_cons (pv 0) (pa_cons (pv 1) (pa_cons (pv 3) (pa_cons (pv 4) pa_nil))))))))))))), ?_⟩
        refine ⟨_, rfl, _, _, rfl, rfl, _, rfl, ?_⟩
        have leaf : ∀ H1 σ, σ[0]? = some (some (.ref p)) → σ[1]? = some (some hv) → σ[2]? = some (some (.str k)) → Same H H1 → (tCall (spLeaf K) [] E0 (tCons (tVar 0) (tCons (tVar 1) (tCons (tVar 2) tNil)))) σ H1 Q := by
          intro H1 σ h0 h1 h2 e1
          exact ⟨_, h0, _, h1, _, h2, p, hv, cols, k, rfl, e1 _ _ hp, hh.mono e1, hc, hk, fun v e H2 he hl _ e2 hv2 => q v e H2 he (by omega) (e1.trans e2) hv2⟩
        refine ite2 (fun _ => iteT (leaf _ _ rfl rfl rfl (Same.refl _))) (fun hd2 => ?_)
        simp at hd2
        refine ⟨_, rfl, p, 4, rfl, hp, by decide, by decide, fun j H1 hj0 hj1 e1 => ⟨rfl, _, rfl, ?_⟩⟩
        refine ite2 (fun _ => leaf _ _ rfl rfl rfl e1) (fun _ => ?_)
        refine ⟨_, rfl, p, 10, rfl, e1 _ _ hp, by decide, by decide, fun y H2 hy0 hy1 e2 => ?_⟩
        have e12 := e1.trans e2
        have ek := eq_kinds hk
        refine ⟨_, rfl, rfl, _, rfl, ?_⟩
        by_cases h0 : y = 0
        · subst h0
          refine iteT ?_
          refine ⟨_, rfl, _, rfl, l2k 3 (by decide), fun t1 ht1 => ?_⟩
          have e3 := e12.trans (same_new ht1 (o := .lst ([("bool" : Str), k, k].map V.str)))
          refine ⟨t1, rfl, ⟨_, SqL.of upd_same⟩, fun Dd hD => ?_⟩
          refine lc_ok (walk_list (K := K) (a := t1) (xs := [("bool" : Str), k, k].map V.str)) (fun i v H => ∃ x c, [("bool" : Str), k, k][i]? = some c ∧ IsE cols c x ∧ (x.levels : Int) ≤ d - 1 ∧ Da K H v x.d) hD (by show 3 < sizeLine; decide) (fun H1 e => Same.seq e (SqL.of upd_same)) (fun i v H3 H4 _ e ⟨x, c, h1, h2, h3, h4⟩ => ⟨x, c, h1, h2, h3, Da.monoT e (Ex.pure _ h2.1) h4⟩) (fun _ _ _ _ h => by rw [h.1]; exact Same.refl _) ?_ ?_
          · rintro i x H3 H4 hi s3 ⟨rfl, hx⟩ Q' kk
            rw [List.getElem?_map, Option.map_eq_some_iff] at hx
            obtain ⟨c, hc1, rfl⟩ := hx
            have hck : kindS c = true := by
              have := List.mem_of_getElem? hc1
              simp only [List.mem_cons, List.not_mem_nil, or_false] at this
              rcases this with rfl | rfl | rfl
              · decide +kernel
              · exact hk
              · exact hk
            have e4 := e3.trans s3
            exact ⟨rfl, _, rfl, _, rfl, _, rfl, _, rfl, _, _, rfl, rfl, p, hv, cols, c, d - 1, rfl, e4 _ _ hp, hh.mono e4, hc, hck, by omega, fun v x H5 hx hl e5 hv5 => kk _ _ e5 ⟨x, c, hc1, hx, by omega, hv5⟩⟩
          · intro H3 acc s3 hacc hla hra
            have hla3 : acc.length = 3 := hla
            match acc, hla3 with
            | [v0, v1, v2], _ =>
              obtain ⟨x0, c0, g0, i0, l0, d0⟩ := hra 0 v0 rfl
              obtain ⟨x1, c1, g1, i1, l1, d1⟩ := hra 1 v1 rfl
              obtain ⟨x2, c2, g2, i2, l2, d2⟩ := hra 2 v2 rfl
              cases g0; cases g1; cases g2
              have hs3 : SqL K H3 Dd [v0, v1, v2] := SqL.of hacc
              refine ⟨_, rfl, Dd, _, _, v0, rfl, rfl, hs3, atI_nat (j := 0) rfl, _, rfl, Dd, _, _, v1, rfl, rfl, hs3, atI_nat (j := 1) rfl, _, rfl, Dd, _, _, v2, rfl, rfl, hs3, atI_nat (j := 2) rfl, l2k 4 (by decide), fun tt htt => ?_⟩
              have s4 := same_new htt (o := .tup [.str "if", v0, v1, v2])
              refine q _ (.ife x0 x1 x2) _ ⟨by simp only [Ex.wf]; rw [i0.1, i1.1, i2.1]; rfl, ?_, i0.2.2, i1.2.2, i2.2.2⟩ (by simp only [Ex.levels]; omega) ((e3.trans s3).trans s4) (.tup (SqT.of upd_same) (.cons (.str _ (by decide +kernel)) (.cons (d0.mono s4) (.cons (d1.mono s4) (.cons (d2.mono s4) .nil)))))
              simp only [kindE]
              rw [i0.2.1, i1.2.1, i2.2.1]; exact ek.2.2.2.2.2
        · show (if decide (V.int y = V.int 0) = true then _ else _)
          rw [decide_eq_false (fun c => h0 (V.int.inj c))]
          refine iteF ⟨_, rfl, rfl, _, rfl, ?_⟩
          by_cases h1 : y = 1
          · subst h1
            refine iteT ?_
            refine ⟨_, rfl, _, rfl, _, rfl, _, rfl, _, _, rfl, rfl, p, hv, cols, k, d - 1, rfl, e12 _ _ hp, hh.mono e12, hc, hk, by omega, fun v1 x1 H3 hx1 hl1 e3 hv1 => ?_⟩
            have e13 := e12.trans e3
            refine ⟨_, rfl, _, rfl, _, rfl, _, rfl, _, _, rfl, rfl, p, hv, cols, k, d - 1, rfl, e13 _ _ hp, hh.mono e13, hc, hk, by omega, fun v2 x2 H4 hx2 hl2 e4 hv2 => ?_⟩
            refine ⟨_, rfl, l2k 3 (by decide), fun tt htt => ?_⟩
            have s5 := same_new htt (o := .tup [.str "else", v2, v1])
            exact q _ _ _ (is_two (by decide +kernel) hx2 hx1 ek.2.2.2.1) (by simp only [Ex.levels]; omega) ((e13.trans e4).trans s5) (da_two (SqT.of upd_same) (by decide +kernel) (hv2.mono s5) (hv1.mono (e4.trans s5)))
          · show (if decide (V.int y = V.int 1) = true then _ else _)
            rw [decide_eq_false (fun c => h1 (V.int.inj c))]
            refine iteF ⟨_, rfl, rfl, _, rfl, ?_⟩
            have hp12 := e12 _ _ hp
            have hh12 := hh.mono e12
            by_cases hki : k = "int"
            · subst hki
              refine goT rfl ⟨_, rfl, rfl, _, rfl, ?_⟩
              by_cases h2 : y = 2
              · subst h2
                refine iteT ?_
                refine ⟨_, rfl, _, rfl, _, rfl, _, _, rfl, rfl, p, hv, cols, "text", d - 1, rfl, hp12, hh12, hc, by decide +kernel, by omega, fun v1 x1 H3 hx1 hl1 e3 hv1 => ⟨l2k 2 (by decide), fun tt htt => ?_⟩⟩
                have s5 := same_new htt (o := .tup [.str "size", v1])
                exact q _ _ _ (is_one (by decide +kernel) hx1 (by decide +kernel)) (by simp only [Ex.levels]; omega) ((e12.trans e3).trans s5) (da_one (SqT.of upd_same) (by decide +kernel) (hv1.mono s5))
              · show (if decide (V.int y = V.int 2) = true then _ else _)
                rw [decide_eq_false (fun c => h2 (V.int.inj c))]
                refine iteF ⟨l2k 5 (by decide), fun t1 ht1 => ?_⟩
                have e3 := e12.trans (same_new ht1 (o := .lst (intWords.map V.str)))
                obtain ⟨y, rfl⟩ : ∃ n : Nat, y = (n : Int) := ⟨y.toNat, by omega⟩
                have hy5 : y % 5 < intWords.length := Nat.mod_lt _ (by decide)
                have hok := List.all_eq_true.mp intWords_ok _ (List.getElem_mem hy5)
                rw [Bool.and_eq_true, decide_eq_true_eq] at hok
                refine ⟨_, rfl, _, _, rfl, rfl, (by show (0 : Int) < 5; decide), t1, _, _, .str intWords[y % 5], rfl, rfl, SqL.of upd_same, ?_, ?_⟩
                · rw [show ((y : Nat) : Int) % 5 = ((y % 5 : Nat) : Int) by omega]
                  exact atI_nat (by show (intWords.map V.str)[y % 5]? = _; rw [List.getElem?_map, List.getElem?_eq_getElem hy5]; rfl)
                refine ⟨_, rfl, _, rfl, _, rfl, _, rfl, p, hv, cols, intWords[y % 5], "int", d, rfl, e3 _ _ hp, hh.mono e3, hc, by decide +kernel, hok.1, by omega, by omega, fun v x1 x2 H6 hx1 hx2 hl1 hl2 e6 hv6 => ?_⟩
                exact q _ _ _ (is_two hok.1 hx1 hx2 hok.2) (by simp only [Ex.levels]; omega) (e3.trans e6) hv6
            · refine goF hki ⟨_, rfl, rfl, _, rfl, ?_⟩
              by_cases hkt : k = "text"
              · subst hkt
                refine goT rfl ⟨_, rfl, _, rfl, _, rfl, p, hv, cols, "glue", "text", d, rfl, hp12, hh12, hc, by decide +kernel, by decide +kernel, by omega, by omega, fun v x1 x2 H6 hx1 hx2 hl1 hl2 e6 hv6 => ?_⟩
                exact q _ _ _ (is_two (by decide +kernel) hx1 hx2 (by decide +kernel)) (by simp only [Ex.levels]; omega) (e12.trans e6) hv6
              · have hkb : k = "bool" := by
                  rcases kindS_or hk with h | h | h
                  · exact absurd h hki
                  · exact absurd h hkt
                  · exact h
                subst hkb
                refine goF hkt ⟨_, rfl, _, rfl, _, rfl, _, rfl, p, hv, cols, d, y, rfl, hp12, hh12, hc, by omega, by omega, by omega, hy1, fun v x H6 hx hl e6 hv6 => ?_⟩
                exact q _ _ _ hx (by omega) (e12.trans e6) hv6
    exact kn_of F m ok (F.bindsN fun _ _ _ _ _ _ us hl => match us, hl with | [_, _, _, _], _ => rfl)
end
end Z
set_option Elab.async false
set_option linter.all false
set_option autoImplicit false
set_option maxRecDepth 100000
set_option maxHeartbeats 4000000
namespace Z
open PySem PySem.Spec PyProof.Rows L2
def spSize (K : PySem.W.Frag) (n : Nat) : Sp := fun vs H Q _ => ∃ v e, vs = [v] ∧ Da K H v (Ex.d e) ∧ e.wf = true ∧ e.levels ≤ n ∧ ∀ H', Same H H' → Q (.int e.nodes) H'
def spFit (K : PySem.W.Frag) : Sp := fun vs H Q _ => ∃ p hv cols k d, vs = [.ref p, hv, .str k, .int d] ∧ H p = some (Pool p) ∧ Da K H hv (.tuple (colsD cols)) ∧ colsOk cols ∧ kindS k = true ∧ d ≤ 6 ∧
  ∀ v e H', FitE cols e k → Same H H' → Da K H' v (Ex.d e) → Q v H'
theorem inV_strs {z : Str} {l : List Str} : inV (.str z) (l.map V.str) = decide (z ∈ l) := by
  induction l with
  | nil => rfl
  | cons a l ih =>
    simp only [inV, List.map_cons, List.any_cons] at ih ⊢
    rw [ih]
    simp only [eqV]
    by_cases h : z = a
    · subst h; simp
    · rw [beq_eq_false_iff_ne.mpr (Ne.symm h)]; simp [h]
theorem flat_strs (l : List Str) : (l.map V.str).all flatV = true := by
  rw [List.all_eq_true]
  intro x hx
  obtain ⟨z, _, rfl⟩ := List.mem_map.mp hx
  rfl
theorem op_ncv {e : Ex} (hw : e.wf = true) : (e.word ∈ (["col", "value"] : List Str)) ↔ e.isOp = false := by
  constructor
  · intro h
    cases ho : e.isOp with
    | false => rfl
    | true =>
      have := Ex.op_tab hw ho
      simp only [List.mem_cons, List.not_mem_nil, or_false] at h
      rcases h with h | h
      · exact absurd h this.2.1
      · exact absurd h this.2.2
  · intro h
    cases e with
    | col n => simp [Ex.word]
    | val k v => simp [Ex.word]
    | _ => cases h
section
variable {P : Program} {w : World} {K : PySem.W.Frag} {mg : Str → Option Value} {base : Heap}
theorem kn__law_size (D : Def0 K mg "_law_size" (top 64)) (T : TxtE K w mg) : ∀ n, Kn P w K mg base CX0 "_law_size" (n + 1) ["tree"] [] (spSize K n) := by
  obtain ⟨f, fd, F, m⟩ := D
  have sc_ : FnScope ["tree", "part"] ["tree"] (defScope (top 64)) := ⟨rfl, rfl, rfl, by decide +kernel, rfl, by decide +kernel, by decide +kernel⟩
  intro n
  induction n with
  | zero =>
    refine kn_of F m (F.ok sc_ (fun vs H Q E h => ?_) (fun cdv A outer s H vs Q E hr h => ?_)) (F.bindsN fun _ _ _ _ _ _ us hl => match us, hl with | [_], _ => rfl)
    · obtain ⟨v, e, rfl, _⟩ := h; rfl
    · obtain ⟨v, e, rfl, _, _, hl, _⟩ := h
      have := e.levels_pos
      omega
  | succ n ih =>
    have F__law_size := ih
    refine kn_of F m (F.ok sc_ (fun vs H Q E h => ?_) (fun cdv A outer s H vs Q E hr h => ?_)) (F.bindsN fun _ _ _ _ _ _ us hl => match us, hl with | [_], _ => rfl)
    · obtain ⟨v, e, rfl, _⟩ := h; rfl
    · obtain ⟨v, e, rfl, hd, hw, hl, q⟩ := h
      refine ⟨_, PSs.nox (pss_cons (ps_if (pt_cmpR (k_in (K := K)) (pe_ix (k_ixT (K := K)) (pv 0) pe_int (fun _ _ => rfl)) (pe_lst (pa_cons pe_str (pa_cons pe_str pa_nil))) (by rfl)) (pss_one (ps_ret pe_int)) pss_nil)
      (pss_one (ps_ret (pe_op op_add pe_int (pe_callB (k_sum (K := K) rfl) (by rfl) T.z_sum (by decide +kernel) (pa_cons (pe_lc (own := [("part", 1)]) (g := gName 1) (by rfl) sc_.nd (k_tup (K := K) (pe_slice (k_slA (K := K)) (pv 0) (po_some pe_int) po_none)) (blkOk_by (N := ["tree", "part"]) (sc := defScope (top 64)) (by decide +kernel)) (fun _ _ _ _ _ => (pg_name (i := 1) sc_.nd rfl (by first | exact Or.inl rfl | exact Or.inr rfl))) (fun _ _ _ _ _ => pts_nil) (fun _ _ _ _ _ => (pe_own F__law_size hr (by first | decide | omega | (simp only [Nat.add_eq]; omega)) pass0 (pa_cons (pv 1) pa_nil)))) pa_nil)))))), ?_⟩
      obtain ⟨a, xs, rfl, hs, hx⟩ := Ex.open hd
      refine ⟨_, rfl, a, _, _, _, rfl, rfl, hs, atI_nat (j := 0) rfl, l2k 2 (by decide), fun t1 ht1 => ?_⟩
      have e1 := same_new ht1 (o := .lst ((["col", "value"] : List Str).map V.str))
      refine ⟨t1, _, rfl, .inl (SqL.of upd_same), rfl, flat_strs ["col", "value"], _, rfl, ?_⟩
      show (if inV (.str e.word) ((["col", "value"] : List Str).map V.str) = true then _ else _)
      rw [inV_strs]
      by_cases ho : e.isOp = true
      · rw [decide_eq_false (fun c => by have := (op_ncv hw).mp c; rw [ho] at this; cases this)]
        refine iteF ?_
        rw [Ex.op_items ho] at hx
        have hs1 := same_t e1 hs
        refine ⟨_, rfl, 1, rfl, ?_⟩
        dsimp only [tNoPart]
        refine slA1 hs1 fun p hp => ?_
        have e2 := e1.trans (same_new hp (o := .tup xs))
        have hlx : xs.length = e.parts.length := by rw [hx.length, List.length_map]
        refine ⟨p, rfl, ⟨_, SqT.of upd_same⟩, fun Dd hD => lc_ok (walk_tup (K := K) (a := p) (xs := xs)) (fun i y _ => ∃ x, e.parts[i]? = some x ∧ y = .int x.nodes) hD (by rw [hlx]; exact Nat.lt_of_le_of_lt e.parts_le (by decide)) (fun H1 e => same_t e (SqT.of upd_same)) (fun _ _ _ _ _ _ h => h) (fun _ _ _ _ h => by rw [h.1]; exact Same.refl _) ?_ ?_⟩
        · rintro i x H1 H' hi s1 ⟨rfl, hxi⟩ Q' kk
          obtain ⟨d, hd1, hd2⟩ := DaL.get hx hxi
          rw [List.getElem?_map, Option.map_eq_some_iff] at hd1
          obtain ⟨x0, hx0, rfl⟩ := hd1
          have hmem := List.mem_of_getElem? hx0
          have hlev := Ex.level_part hmem
          exact ⟨rfl, _, rfl, x, x0, rfl, hd2.mono (e2.trans s1), Ex.wf_part hw hmem, by omega, fun H2 e2 => kk _ _ e2 ⟨x0, hx0, rfl⟩⟩
        · intro H1 acc s1 hacc hla hra
          have ea : acc = (e.parts.map fun x => ((x.nodes : Nat) : Int)).map V.int := by
            rw [List.map_map]
            exact map_of (by rw [hla, hlx]) hra
          refine ⟨Dd, _, rfl, SqL.of (by rw [hacc, ea]), _, _, rfl, rfl, ?_⟩
          have hsum : (1 : Int) + (e.parts.map fun x => ((x.nodes : Nat) : Int)).sum = ((e.nodes : Nat) : Int) := by
            rw [e.nodes_parts]
            have : ∀ L : List Ex, (L.map fun x => ((x.nodes : Nat) : Int)).sum = (((L.map Ex.nodes).sum : Nat) : Int) := by
              intro L
              induction L with
              | nil => rfl
              | cons a L ih => simp only [List.map_cons, List.sum_cons, ih]; omega
            rw [this]; omega
          have := q H1 (e2.trans s1)
          rw [← hsum] at this
          exact this
      · have hof : e.isOp = false := by simpa using ho
        rw [decide_eq_true ((op_ncv hw).mpr hof)]
        refine iteT ?_
        have := q _ e1
        rw [show e.nodes = 1 by cases e <;> first | rfl | cases hof] at this
        exact this
theorem kn__law_fit (D : Def0 K mg "_law_fit" (top 65)) (T : TxtE K w mg) (F__law_leaf : Kn P w K mg base CX0 "_law_leaf" 3 ["pool", "heads", "kind_here"] [] (spLeaf K)) (F__law_size : Kn P w K mg base CX0 "_law_size" 7 ["tree"] [] (spSize K 6)) (F__law_tree : Kn P w K mg base CX0 "_law_tree" 22 ["pool", "heads", "kind_here", "deep"] [] (spTree K 6)) : Kn P w K mg base CX0 "_law_fit" 23 ["pool", "heads", "kind_here", "deep"] [] (spFit K) := by
  obtain ⟨f, fd, F, m⟩ := D
  have sc_ : FnScope ["pool", "heads", "kind_here", "deep", "turn", "tree"] ["pool", "heads", "kind_here", "deep"] (defScope (top 65)) := ⟨rfl, rfl, rfl, by decide +kernel, rfl, by decide +kernel, by decide +kernel⟩
  refine kn_of F m (F.ok sc_ (fun vs H Q E h => ?_) (fun cdv A outer s H vs Q E hr h => ?_)) (F.bindsN fun _ _ _ _ _ _ us hl => match us, hl with | [_, _, _, _], _ => rfl)
  · obtain ⟨p, hv, cols, k, d, rfl, _⟩ := h; rfl
  · obtain ⟨p, hv, cols, k, d, rfl, hp, hh, hc, hk, hd, q⟩ := h
    refine ⟨_, PSs.nox (pss_cons (ps_for PassesOwn.never rfl (pi_range1 (by rfl) T.z_range (pa_cons pe_int pa_nil)) (pg_name (i := 4) sc_.nd rfl (by first | exact Or.inl rfl | exact Or.inr rfl))
        (pss_cons (ps_set (i := 5) sc_.nd rfl (by first | exact Or.inl rfl | exact Or.inr rfl) (pe_own F__law_tree hr (by first | decide | omega | (simp only [Nat.add_eq]; omega)) pass0 (pa_cons (pv 0) (pa_cons (pv 1) (pa_cons (pv 2) (pa_cons (pv 3) pa_nil))))))
      (pss_one (ps_if (pt_cmpR op_lt (pe_own F__law_size hr (by first | decide | omega | (simp only [Nat.add_eq]; omega)) pass0 (pa_cons (pv 5) pa_nil)) pe_int (nomark _)) (pss_one (ps_ret (pv 5))) pss_nil))))
      (pss_one (ps_ret (pe_own F__law_leaf hr (by first | decide | omega | (simp only [Nat.add_eq]; omega)) pass0 (pa_cons (pv 0) (pa_cons (pv 1) (pa_cons (pv 2) pa_nil))))))), ?_⟩
    refine ⟨4, rfl, by decide, by decide, for_it (walk_range (lo := 0) (n := 4)) (fun i σ H' => ∃ o1 o2, σ = [some (.ref p), some hv, some (.str k), some (.int d), o1, o2] ∧ Same H H') ⟨none, none, rfl, Same.refl _⟩ (fun _ _ _ _ _ => trivial) ?_ ?_⟩
    · rintro i x σ H1 H2 hi ⟨o1, o2, rfl, e1⟩ ⟨rfl, rfl⟩
      refine ⟨_, rfl, _, rfl, _, rfl, _, rfl, p, hv, cols, k, d, rfl, e1 _ _ hp, hh.mono e1, hc, hk, hd, fun v e H3 he hl e2 hv3 => ?_⟩
      have hl6 : e.levels ≤ 6 := by omega
      refine ⟨_, rfl, v, e, rfl, hv3, he.1, hl6, fun H4 e4 => ⟨_, _, rfl, rfl, _, rfl, ?_⟩⟩
      have e14 := (e1.trans e2).trans e4
      refine ite2 (fun c => ?_) (fun _ => ⟨_, _, rfl, e14⟩)
      have c' := of_decide_eq_true c
      exact ⟨_, rfl, q v e _ ⟨he.1, by omega, by omega, he.2⟩ e14 (hv3.mono e4)⟩
    · rintro σ H1 ⟨o1, o2, rfl, e1⟩
      exact ⟨_, rfl, _, rfl, _, rfl, p, hv, cols, k, rfl, e1 _ _ hp, hh.mono e1, hc, hk, fun v e H3 he hl hn e2 hv3 => q v e H3 ⟨he.1, by omega, by omega, he.2⟩ (e1.trans e2) hv3⟩
end
end Z
set_option Elab.async false
set_option linter.all false
set_option autoImplicit false
set_option maxRecDepth 100000
set_option maxHeartbeats 4000000
/-! the values of operations and the folded expression, as data -/
namespace Z
open PySem PySem.Spec PyProof.Rows L2
def isNo : PyData → Bool
  | .none => true
  | _ => false
def isB (b : Bool) : PyData → Bool
  | .bool c => c == b
  | _ => false
def settle (dec : Bool) (ds : List PyData) : PyData := if ds.any (isB dec) then .bool dec else if ds.any isNo then .none else .bool (!dec)
def cntI (w : Str) (i j : Int) : PyData :=
  if w = "add" then .int (i + j) else if w = "sub" then .int (i - j) else if w = "mul" then .int (i * j) else if w = "eq" then .bool (decide (i = j)) else if w = "lt" then .bool (decide (i < j)) else if w = "le" then .bool (decide (i ≤ j))
  else if j = 0 then .none else if w = "div" then .int (i.fdiv j) else .int (i.fmod j)
def cntS (w : Str) (x y : Str) : PyData :=
  if w = "glue" then .str (x ++ y) else if w = "eq" then .bool (decide (x = y)) else if w = "lt" then .bool (decide (x.cps.toList < y.cps.toList)) else .bool (!decide (y.cps.toList < x.cps.toList))
def cntB (w : Str) (x y : Bool) : PyData :=
  if w = "eq" then .bool (decide (x = y)) else if w = "lt" then .bool (decide (b2i x < b2i y)) else .bool (decide (b2i x ≤ b2i y))
def cnt2 (w : Str) : PyData → PyData → PyData
  | .int i, .int j => cntI w i j
  | .str x, .str y => cntS w x y
  | .bool x, .bool y => cntB w x y
  | _, _ => .none
def valB (w : Str) (ds : List PyData) : PyData :=
  if w = "and" then settle false ds else if w = "or" then settle true ds
  else if w = "there" then .bool (!isNo (ds.getD 0 .none))
  else if w = "if" then (if isB true (ds.getD 0 .none) then ds.getD 1 .none else ds.getD 2 .none)
  else if w = "else" then (if isNo (ds.getD 0 .none) then ds.getD 1 .none else ds.getD 0 .none)
  else if ds.any isNo then .none
  else if w = "not" then .bool (isB false (ds.getD 0 .none))
  else if w = "size" then (match ds.getD 0 .none with | .str z => .int z.length | _ => .none)
  else cnt2 w (ds.getD 0 .none) (ds.getD 1 .none)
theorem vb_and (ds : List PyData) : valB "and" ds = settle false ds := if_pos rfl
theorem vb_or (ds : List PyData) : valB "or" ds = settle true ds := by unfold valB; rw [if_neg (by decide +kernel), if_pos rfl]
theorem vb_there (ds : List PyData) : valB "there" ds = .bool (!isNo (ds.getD 0 .none)) := by unfold valB; rw [if_neg (by decide +kernel), if_neg (by decide +kernel), if_pos rfl]
theorem vb_if (ds : List PyData) : valB "if" ds = (if isB true (ds.getD 0 .none) then ds.getD 1 .none else ds.getD 2 .none) := by
  unfold valB; rw [if_neg (by decide +kernel), if_neg (by decide +kernel), if_neg (by decide +kernel), if_pos rfl]
theorem vb_else (ds : List PyData) : valB "else" ds = (if isNo (ds.getD 0 .none) then ds.getD 1 .none else ds.getD 0 .none) := by
  unfold valB; rw [if_neg (by decide +kernel), if_neg (by decide +kernel), if_neg (by decide +kernel), if_neg (by decide +kernel), if_pos rfl]
theorem vb_not (ds : List PyData) : valB "not" ds = if ds.any isNo then .none else .bool (isB false (ds.getD 0 .none)) := by
  unfold valB; rw [if_neg (by decide +kernel), if_neg (by decide +kernel), if_neg (by decide +kernel), if_neg (by decide +kernel), if_neg (by decide +kernel)]
  rw [if_pos (rfl : ("not" : Str) = "not")]
theorem vb_size (ds : List PyData) : valB "size" ds = if ds.any isNo then .none else (match ds.getD 0 .none with | .str z => .int z.length | _ => .none) := by
  unfold valB; rw [if_neg (by decide +kernel), if_neg (by decide +kernel), if_neg (by decide +kernel), if_neg (by decide +kernel), if_neg (by decide +kernel)]
  rw [if_neg (by decide +kernel : ¬ ("size" : Str) = "not"), if_pos (rfl : ("size" : Str) = "size")]
def sevenL : List Str := ["and", "or", "there", "if", "else", "not", "size"]
theorem vb_two {w : Str} (h : w ∉ sevenL) (ds : List PyData) : valB w ds = if ds.any isNo then .none else cnt2 w (ds.getD 0 .none) (ds.getD 1 .none) := by
  simp only [sevenL, List.mem_cons, List.not_mem_nil, or_false, not_or] at h
  obtain ⟨h1, h2, h3, h4, h5, h6, h7⟩ := h
  unfold valB; rw [if_neg h1, if_neg h2, if_neg h3, if_neg h4, if_neg h5, if_neg h6, if_neg h7]
/-! kinds of operations, as the law tells them -/
def arithL : List Str := ["add", "sub", "mul", "div", "mod"]
def cmpL : List Str := ["eq", "lt", "le"]
def logL : List Str := ["and", "or", "not"]
def kindT (w : Str) (ks : List Str) : Option Str :=
  if w ∈ arithL then (if ks = (["int", "int"] : List Str) then some ("int" : Str) else none)
  else if w ∈ cmpL then (if ks.getD 0 "" = ks.getD 1 "" then some ("bool" : Str) else none)
  else if w ∈ logL then (if ks = List.replicate ks.length ("bool" : Str) then some ("bool" : Str) else none)
  else if w = "if" then (if ks.getD 0 "" = "bool" ∧ ks.getD 1 "" = ks.getD 2 "" then some (ks.getD 1 "") else none)
  else if w = "else" then (if ks.getD 0 "" = ks.getD 1 "" then some (ks.getD 0 "") else none)
  else if w = "there" then some ("bool" : Str)
  else if w = "glue" then (if ks = (["text", "text"] : List Str) then some ("text" : Str) else none)
  else if ks = (["text"] : List Str) then some ("int" : Str) else none
theorem kb_eq {w o : Str} {l ks : List Str} (h1 : partKinds.lookup w = some l) (h2 : ownKinds.lookup w = some o) :
    kindB w ks = if ks = l.map (fun (k : Str) => if k = "any" then ks.getLastD "" else k) then some (if o = "any" then ks.getLastD "" else o) else none := by
  unfold kindB wantK ownK
  rw [h1, h2]; rfl
theorem any_no {k x : Str} (h : ¬ k = "any") : (if k = "any" then x else k) = k := if_neg h
theorem ni {x : Str} : (if ("int" : Str) = "any" then x else ("int" : Str)) = "int" := any_no (by decide +kernel)
theorem nt {x : Str} : (if ("text" : Str) = "any" then x else ("text" : Str)) = "text" := any_no (by decide +kernel)
theorem nb {x : Str} : (if ("bool" : Str) = "any" then x else ("bool" : Str)) = "bool" := any_no (by decide +kernel)
theorem ny {x : Str} : (if ("any" : Str) = "any" then x else ("any" : Str)) = x := if_pos rfl
theorem kT_ar {w : Str} {ks : List Str} (h : w ∈ arithL) : kindT w ks = if ks = (["int", "int"] : List Str) then some ("int" : Str) else none := if_pos h
theorem kT_cm {w : Str} {ks : List Str} (h1 : w ∉ arithL) (h : w ∈ cmpL) : kindT w ks = if ks.getD 0 "" = ks.getD 1 "" then some ("bool" : Str) else none := by unfold kindT; rw [if_neg h1, if_pos h]
theorem kT_lo {w : Str} {ks : List Str} (h1 : w ∉ arithL) (h2 : w ∉ cmpL) (h : w ∈ logL) : kindT w ks = if ks = List.replicate ks.length ("bool" : Str) then some ("bool" : Str) else none := by unfold kindT; rw [if_neg h1, if_neg h2, if_pos h]
theorem kT_rest {w : Str} {ks : List Str} (h1 : w ∉ arithL) (h2 : w ∉ cmpL) (h3 : w ∉ logL) : kindT w ks = if w = "if" then (if ks.getD 0 "" = "bool" ∧ ks.getD 1 "" = ks.getD 2 "" then some (ks.getD 1 "") else none)
  else if w = "else" then (if ks.getD 0 "" = ks.getD 1 "" then some (ks.getD 0 "") else none)
  else if w = "there" then some ("bool" : Str)
  else if w = "glue" then (if ks = (["text", "text"] : List Str) then some ("text" : Str) else none)
  else if ks = (["text"] : List Str) then some ("int" : Str) else none := by unfold kindT; rw [if_neg h1, if_neg h2, if_neg h3]
theorem kT_if {ks : List Str} : kindT "if" ks = if ks.getD 0 "" = "bool" ∧ ks.getD 1 "" = ks.getD 2 "" then some (ks.getD 1 "") else none := by
  rw [kT_rest (by decide +kernel) (by decide +kernel) (by decide +kernel), if_pos rfl]
theorem kT_else {ks : List Str} : kindT "else" ks = if ks.getD 0 "" = ks.getD 1 "" then some (ks.getD 0 "") else none := by
  rw [kT_rest (by decide +kernel) (by decide +kernel) (by decide +kernel), if_neg (by decide +kernel : ¬ ("else" : Str) = "if"), if_pos (rfl : ("else" : Str) = "else")]
theorem kT_there {ks : List Str} : kindT "there" ks = some ("bool" : Str) := by
  rw [kT_rest (by decide +kernel) (by decide +kernel) (by decide +kernel), if_neg (by decide +kernel : ¬ ("there" : Str) = "if"), if_neg (by decide +kernel : ¬ ("there" : Str) = "else"), if_pos (rfl : ("there" : Str) = "there")]
theorem kT_glue {ks : List Str} : kindT "glue" ks = if ks = (["text", "text"] : List Str) then some ("text" : Str) else none := by
  rw [kT_rest (by decide +kernel) (by decide +kernel) (by decide +kernel), if_neg (by decide +kernel : ¬ ("glue" : Str) = "if"), if_neg (by decide +kernel : ¬ ("glue" : Str) = "else"), if_neg (by decide +kernel : ¬ ("glue" : Str) = "there"), if_pos (rfl : ("glue" : Str) = "glue")]
theorem kT_size {ks : List Str} : kindT "size" ks = if ks = (["text"] : List Str) then some ("int" : Str) else none := by
  rw [kT_rest (by decide +kernel) (by decide +kernel) (by decide +kernel), if_neg (by decide +kernel : ¬ ("size" : Str) = "if"), if_neg (by decide +kernel : ¬ ("size" : Str) = "else"), if_neg (by decide +kernel : ¬ ("size" : Str) = "there"), if_neg (by decide +kernel : ¬ ("size" : Str) = "glue")]
theorem kindT_1 {w a : Str} (h : w ∈ onesL) : kindB w [a] = kindT w [a] := by
  simp only [onesL, List.mem_cons, List.not_mem_nil, or_false] at h
  rcases h with rfl | rfl | rfl
  · rw [kb_eq (l := ["text"]) (o := "int") (by decide +kernel) (by decide +kernel), kT_size]
    simp only [List.map_cons, List.map_nil, nt, ni]
  · rw [kb_eq (l := ["bool"]) (o := "bool") (by decide +kernel) (by decide +kernel), kT_lo (by decide +kernel) (by decide +kernel) (by decide +kernel)]
    simp only [List.map_cons, List.map_nil, nb]
    rfl
  · rw [kb_eq (l := ["any"]) (o := "bool") (by decide +kernel) (by decide +kernel), kT_there]
    simp only [List.map_cons, List.map_nil, nb, ny]
    exact if_pos rfl
theorem kindT_2 {w a b : Str} (h : w ∈ twosL) : kindB w [a, b] = kindT w [a, b] := by
  simp only [twosL, List.mem_cons, List.not_mem_nil, or_false] at h
  have ar : ∀ {w : Str}, partKinds.lookup w = some (["int", "int"] : List Str) → ownKinds.lookup w = some "int" → w ∈ arithL → kindB w [a, b] = kindT w [a, b] := by
    intro w h1 h2 h3
    rw [kb_eq h1 h2, kT_ar h3]
    simp only [List.map_cons, List.map_nil, ni]
  have cm : ∀ {w : Str}, partKinds.lookup w = some (["any", "any"] : List Str) → ownKinds.lookup w = some "bool" → w ∉ arithL → w ∈ cmpL → kindB w [a, b] = kindT w [a, b] := by
    intro w h1 h2 h3 h4
    rw [kb_eq h1 h2, kT_cm h3 h4]
    simp only [List.map_cons, List.map_nil, nb, ny]
    show (if [a, b] = [b, b] then _ else _) = (if a = b then _ else _)
    simp only [List.cons.injEq, and_true]
  have lo : ∀ {w : Str}, partKinds.lookup w = some (["bool", "bool"] : List Str) → ownKinds.lookup w = some "bool" → w ∉ arithL → w ∉ cmpL → w ∈ logL → kindB w [a, b] = kindT w [a, b] := by
    intro w h1 h2 h3 h4 h5
    rw [kb_eq h1 h2, kT_lo h3 h4 h5]
    simp only [List.map_cons, List.map_nil, nb]
    rfl
  rcases h with rfl | rfl | rfl | rfl | rfl | rfl | rfl | rfl | rfl | rfl | rfl | rfl
  · exact ar (by decide +kernel) (by decide +kernel) (by decide +kernel)
  · exact ar (by decide +kernel) (by decide +kernel) (by decide +kernel)
  · exact ar (by decide +kernel) (by decide +kernel) (by decide +kernel)
  · exact ar (by decide +kernel) (by decide +kernel) (by decide +kernel)
  · exact ar (by decide +kernel) (by decide +kernel) (by decide +kernel)
  · rw [kb_eq (l := ["text", "text"]) (o := "text") (by decide +kernel) (by decide +kernel), kT_glue]
    simp only [List.map_cons, List.map_nil, nt]
  · exact cm (by decide +kernel) (by decide +kernel) (by decide +kernel) (by decide +kernel)
  · exact cm (by decide +kernel) (by decide +kernel) (by decide +kernel) (by decide +kernel)
  · exact cm (by decide +kernel) (by decide +kernel) (by decide +kernel) (by decide +kernel)
  · exact lo (by decide +kernel) (by decide +kernel) (by decide +kernel) (by decide +kernel) (by decide +kernel)
  · exact lo (by decide +kernel) (by decide +kernel) (by decide +kernel) (by decide +kernel) (by decide +kernel)
  · rw [kb_eq (l := ["any", "any"]) (o := "any") (by decide +kernel) (by decide +kernel), kT_else]
    simp only [List.map_cons, List.map_nil, ny]
    show (if [a, b] = [b, b] then some b else none) = (if a = b then some a else none)
    by_cases e : a = b
    · subst e; simp
    · rw [if_neg e, if_neg (fun c => e (by injection c))]
theorem kindT_3 {a b c : Str} : kindB "if" [a, b, c] = kindT "if" [a, b, c] := by
  rw [kb_eq (l := ["bool", "any", "any"]) (o := "any") (by decide +kernel) (by decide +kernel), kT_if]
  simp only [List.map_cons, List.map_nil, ny, nb]
  show (if ([a, b, c] : List Str) = [("bool" : Str), c, c] then some c else none) = (if a = ("bool" : Str) ∧ b = c then some b else none)
  by_cases e : a = "bool" ∧ b = c
  · obtain ⟨rfl, rfl⟩ := e; simp
  · rw [if_neg e, if_neg (fun h => e ⟨by injection h, by injection h with _ h; injection h⟩)]
theorem isD_bool (d : PyData) (h : isD d "bool" = true) : ∃ b, d = .bool b := by
  cases d <;> first | exact ⟨_, rfl⟩ | (revert h; simp [isD, tyD])
theorem val_cases {k : Str} {d : PyData} (hk : kindS k = true) (h : valueD k d = true) : d = .none ∨ (k = "int" ∧ ∃ i, d = .int i) ∨ (k = "text" ∧ ∃ z, d = .str z ∧ textS z = true) ∨ (k = "bool" ∧ ∃ b, d = .bool b) := by
  have key : d = .none ∨ (if k = "int" then wholeD d else if k = "text" then textD d else isD d "bool") = true := by
    cases d with
    | none => exact .inl rfl
    | _ => exact .inr h
  rcases key with h | h
  · exact .inl h
  · right
    simp only [kindS, Bool.or_eq_true] at hk
    rcases hk with (e | e) | e
    · have := eq_of_beq e; subst this
      rw [if_pos rfl] at h
      cases d <;> first | exact .inl ⟨rfl, _, rfl⟩ | cases h
    · have := eq_of_beq e; subst this
      rw [if_neg (by decide +kernel : ¬ ("text" : Str) = "int"), if_pos (rfl : ("text" : Str) = "text")] at h
      cases d <;> first | exact .inr (.inl ⟨rfl, _, rfl, h⟩) | cases h
    · have := eq_of_beq e; subst this
      rw [if_neg (by decide +kernel : ¬ ("bool" : Str) = "int"), if_neg (by decide +kernel : ¬ ("bool" : Str) = "text")] at h
      exact .inr (.inr ⟨rfl, isD_bool d h⟩)
theorem vd_eq {k : Str} {d : PyData} (h : d ≠ .none) : valueD k d = if k = "int" then wholeD d else if k = "text" then textD d else isD d "bool" := by
  cases d with
  | none => exact absurd rfl h
  | _ => rfl
theorem vd_int (i : Int) : valueD "int" (.int i) = true := by
  rw [vd_eq (by intro c; cases c), if_pos (rfl : ("int" : Str) = "int")]; rfl
theorem vd_text {z : Str} (h : textS z = true) : valueD "text" (.str z) = true := by
  rw [vd_eq (by intro c; cases c), if_neg (by decide +kernel : ¬ ("text" : Str) = "int"), if_pos (rfl : ("text" : Str) = "text")]; exact h
theorem vd_bool (b : Bool) : valueD "bool" (.bool b) = true := by
  rw [vd_eq (by intro c; cases c), if_neg (by decide +kernel : ¬ ("bool" : Str) = "int"), if_neg (by decide +kernel : ¬ ("bool" : Str) = "text")]; rfl
theorem vd_none (k : Str) : valueD k .none = true := rfl
end Z
set_option Elab.async false
set_option linter.all false
set_option autoImplicit false
set_option maxRecDepth 100000
set_option maxHeartbeats 4000000
/-! typed operations have typed values; the folded expression -/
namespace Z
open PySem PySem.Spec PyProof.Rows L2
theorem textS_app {x y : Str} (hx : textS x = true) (hy : textS y = true) : textS (x ++ y) = true := by
  simp only [textS, Txt.isascii, Txt.isprintable, Bool.and_eq_true] at *
  have e : (x ++ y).cps = x.cps ++ y.cps := rfl
  rw [e]
  simp only [Array.all_append, Bool.and_eq_true]
  exact ⟨⟨hx.1, hy.1⟩, ⟨hx.2, hy.2⟩⟩
/-- a value of a kind, within a bound -/
def Ok (k : Str) (m : Nat) (d : PyData) : Prop := kindS k = true ∧ valueD k d = true ∧ Bd m d
theorem Ok.le {k : Str} {m n : Nat} {d : PyData} (h : Ok k m d) (e : m ≤ n) : Ok k n d := ⟨h.1, h.2.1, h.2.2.le e⟩
theorem ok_none {k : Str} {m : Nat} (h : kindS k = true) : Ok k m .none := ⟨h, rfl, trivial⟩
theorem ok_bool {m : Nat} (b : Bool) : Ok "bool" m (.bool b) := ⟨by decide +kernel, vd_bool b, trivial⟩
theorem ok_int {m : Nat} {i : Int} (h : i.natAbs < 2 ^ (44 * m)) : Ok "int" m (.int i) := ⟨by decide +kernel, vd_int i, h⟩
theorem pow_mono {a b : Nat} (h : a ≤ b) : (2 : Nat) ^ a ≤ 2 ^ b := Nat.pow_le_pow_right (by decide) h
theorem pow_two {a b c : Nat} {x y : Nat} (hx : x < 2 ^ a) (hy : y < 2 ^ b) (h : a + 1 ≤ c) (h2 : b + 1 ≤ c) : x + y < 2 ^ c := by
  have h1 : 2 ^ (a + 1) ≤ 2 ^ c := pow_mono h
  have h3 : 2 ^ (b + 1) ≤ 2 ^ c := pow_mono h2
  rw [Nat.pow_succ] at h1 h3
  omega
theorem fmod_small (i : Int) {j : Int} (h : j ≠ 0) : (i.fmod j).natAbs ≤ j.natAbs := by
  rw [Int.fmod_eq_emod]
  have h1 := Int.emod_nonneg i h
  have h2 := Int.emod_lt i h
  split <;> omega
theorem settle_ok {dec : Bool} {ds : List PyData} {m : Nat} : Ok "bool" m (settle dec ds) := by
  unfold settle
  split
  · exact ok_bool _
  · split
    · exact ok_none (by decide +kernel)
    · exact ok_bool _
theorem cntI_ok {w : Str} {i j : Int} {m n : Nat} (hi : i.natAbs < 2 ^ (44 * m)) (hj : j.natAbs < 2 ^ (44 * n)) (hm : 1 ≤ m) (hn : 1 ≤ n) : (w ∈ arithL → Ok "int" (1 + (m + n)) (cntI w i j)) ∧ (w ∈ cmpL → Ok "bool" (1 + (m + n)) (cntI w i j)) := by
  refine ⟨fun h => ?_, fun h => ?_⟩
  · have hn0 : Ok "int" (1 + (m + n)) .none := ok_none (by decide +kernel)
    unfold cntI
    split
    · exact ok_int (Nat.lt_of_le_of_lt (Int.natAbs_add_le i j) (pow_two hi hj (by omega) (by omega)))
    split
    · exact ok_int (Nat.lt_of_le_of_lt (show (i - j).natAbs ≤ i.natAbs + j.natAbs by omega) (pow_two hi hj (by omega) (by omega)))
    split
    · exact ok_int (Nat.lt_of_lt_of_le (wide_lt hi hj) (pow_mono (by omega)))
    split
    · rename_i c; subst c; exact absurd h (by decide +kernel)
    split
    · rename_i c; subst c; exact absurd h (by decide +kernel)
    split
    · rename_i c; subst c; exact absurd h (by decide +kernel)
    split
    · exact hn0
    rename_i hj0
    split
    · exact ok_int (Nat.lt_of_le_of_lt (Int.natAbs_fdiv_le_natAbs i j) (Nat.lt_of_lt_of_le hi (pow_mono (by omega))))
    · exact ok_int (Nat.lt_of_le_of_lt (fmod_small i hj0) (Nat.lt_of_lt_of_le hj (pow_mono (by omega))))
  · unfold cntI
    split
    · rename_i c; subst c; exact absurd h (by decide +kernel)
    split
    · rename_i c; subst c; exact absurd h (by decide +kernel)
    split
    · rename_i c; subst c; exact absurd h (by decide +kernel)
    split
    · exact ok_bool _
    split
    · exact ok_bool _
    split
    · exact ok_bool _
    · rename_i c1 c2 c3
      simp only [cmpL, List.mem_cons, List.not_mem_nil, or_false] at h
      rcases h with h | h | h <;> contradiction
theorem cntS_cmp {w : Str} {x y : Str} {m : Nat} (h : w ∈ cmpL) : Ok "bool" m (cntS w x y) := by
  unfold cntS
  split
  · rename_i c; subst c; exact absurd h (by decide +kernel)
  split
  · exact ok_bool _
  split <;> exact ok_bool _
theorem cntB_ok {w : Str} {x y : Bool} {m : Nat} : Ok "bool" m (cntB w x y) := by
  unfold cntB
  split
  · exact ok_bool _
  split <;> exact ok_bool _
theorem notSeven {w : Str} (h : w ∈ arithL ∨ w ∈ cmpL ∨ w = "glue") : w ∉ sevenL := by
  have : ((arithL ++ cmpL ++ (["glue"] : List Str)).all fun w => !sevenL.contains w) = true := by decide +kernel
  have h2 : w ∈ arithL ++ cmpL ++ (["glue"] : List Str) := by simp only [List.mem_append, List.mem_singleton]; rcases h with h | h | h <;> simp [h]
  have := List.all_eq_true.mp this w h2
  simpa using this
/-- the cases of an operation of two parts with a kind -/
theorem two_cases {w a b k : Str} (hw : w ∈ twosL) (h : kindB w [a, b] = some k) :
    (w ∈ arithL ∧ a = "int" ∧ b = "int" ∧ k = "int") ∨ (w ∈ cmpL ∧ a = b ∧ k = "bool") ∨ ((w = "and" ∨ w = "or") ∧ a = "bool" ∧ b = "bool" ∧ k = "bool") ∨ (w = "glue" ∧ a = "text" ∧ b = "text" ∧ k = "text") ∨ (w = "else" ∧ a = b ∧ k = a) := by
  rw [kindT_2 hw] at h
  have split5 : w ∈ arithL ∨ w ∈ cmpL ∨ (w = "and" ∨ w = "or") ∨ w = "glue" ∨ w = "else" := by
    simp only [twosL, arithL, cmpL, List.mem_cons, List.not_mem_nil, or_false] at hw ⊢
    rcases hw with h | h | h | h | h | h | h | h | h | h | h | h <;> simp [h]
  rcases split5 with g | g | g | g | g
  · rw [kT_ar g] at h
    split at h
    · rename_i c; cases h; injection c with c1 c2; injection c2 with c2; exact .inl ⟨g, c1, c2, rfl⟩
    · cases h
  · have hn : w ∉ arithL := by
      have : (cmpL.all fun w => !arithL.contains w) = true := by decide +kernel
      simpa using List.all_eq_true.mp this w g
    rw [kT_cm hn g] at h
    split at h
    · rename_i c; cases h; exact .inr (.inl ⟨g, c, rfl⟩)
    · cases h
  · have hl : w ∉ arithL ∧ w ∉ cmpL ∧ w ∈ logL := by rcases g with rfl | rfl <;> decide +kernel
    rw [kT_lo hl.1 hl.2.1 hl.2.2] at h
    split at h
    · rename_i c; cases h; injection c with c1 c2; injection c2 with c2; exact .inr (.inr (.inl ⟨g, c1, c2, rfl⟩))
    · cases h
  · subst g
    rw [kT_glue] at h
    split at h
    · rename_i c; cases h; injection c with c1 c2; injection c2 with c2; exact .inr (.inr (.inr (.inl ⟨rfl, c1, c2, rfl⟩)))
    · cases h
  · subst g
    rw [kT_else] at h
    split at h
    · rename_i c; cases h; exact .inr (.inr (.inr (.inr ⟨rfl, c, rfl⟩)))
    · cases h
theorem one_cases {w a k : Str} (hw : w ∈ onesL) (h : kindB w [a] = some k) : (w = "there" ∧ k = "bool") ∨ (w = "not" ∧ a = "bool" ∧ k = "bool") ∨ (w = "size" ∧ a = "text" ∧ k = "int") := by
  rw [kindT_1 hw] at h
  simp only [onesL, List.mem_cons, List.not_mem_nil, or_false] at hw
  rcases hw with rfl | rfl | rfl
  · rw [kT_size] at h
    split at h
    · rename_i c; cases h; injection c with c1 c2; exact .inr (.inr ⟨rfl, c1, rfl⟩)
    · cases h
  · rw [kT_lo (by decide +kernel) (by decide +kernel) (by decide +kernel)] at h
    split at h
    · rename_i c; cases h; injection c with c1 c2; exact .inr (.inl ⟨rfl, c1, rfl⟩)
    · cases h
  · rw [kT_there] at h; cases h; exact .inl ⟨rfl, rfl⟩
theorem ife_cases {a b c k : Str} (h : kindB "if" [a, b, c] = some k) : a = "bool" ∧ b = c ∧ k = b := by
  rw [kindT_3, kT_if] at h
  split at h
  · rename_i q; cases h; exact ⟨q.1, q.2, rfl⟩
  · cases h
theorem val1_ok {w a k : Str} {m : Nat} {d : PyData} (hw : w ∈ onesL) (h : kindB w [a] = some k) (hd : Ok a m d) : Ok k (1 + m) (valB w [d]) := by
  rcases one_cases hw h with ⟨rfl, rfl⟩ | ⟨rfl, rfl, rfl⟩ | ⟨rfl, rfl, rfl⟩
  · rw [vb_there]; exact ok_bool _
  · rw [vb_not]
    split
    · exact ok_none (by decide +kernel)
    · exact ok_bool _
  · rw [vb_size]
    split
    · exact ok_none (by decide +kernel)
    · rcases val_cases hd.1 hd.2.1 with rfl | ⟨c, _⟩ | ⟨_, z, rfl, _⟩ | ⟨c, _⟩
      · exact ok_none (by decide +kernel)
      · exact absurd c (by decide +kernel)
      · refine ok_int ?_
        have hz : z.length ≤ 40 * m := hd.2.2
        show ((z.length : Nat) : Int).natAbs < _
        rw [Int.natAbs_natCast]
        have := Nat.lt_two_pow_self (n := 44 * (1 + m))
        omega
      · exact absurd c (by decide +kernel)
theorem val2_ok {w a b k : Str} {m n : Nat} {d e : PyData} (hw : w ∈ twosL) (h : kindB w [a, b] = some k) (hd : Ok a m d) (he : Ok b n e) (hm : 1 ≤ m) (hn : 1 ≤ n) : Ok k (1 + (m + n)) (valB w [d, e]) := by
  have hk0 : kindS k = true → Ok k (1 + (m + n)) .none := ok_none
  rcases two_cases hw h with ⟨g, rfl, rfl, rfl⟩ | ⟨g, rfl, rfl⟩ | ⟨g, rfl, rfl, rfl⟩ | ⟨rfl, rfl, rfl, rfl⟩ | ⟨rfl, rfl, rfl⟩
  · rw [vb_two (notSeven (.inl g))]
    split
    · exact ok_none (by decide +kernel)
    · rename_i hno
      rcases val_cases hd.1 hd.2.1 with rfl | ⟨_, i, rfl⟩ | ⟨c, _⟩ | ⟨c, _⟩
      · exact absurd rfl hno
      · rcases val_cases he.1 he.2.1 with rfl | ⟨_, j, rfl⟩ | ⟨c, _⟩ | ⟨c, _⟩
        · exact absurd rfl hno
        · exact (cntI_ok hd.2.2 he.2.2 hm hn).1 g
        · exact absurd c (by decide +kernel)
        · exact absurd c (by decide +kernel)
      · exact absurd c (by decide +kernel)
      · exact absurd c (by decide +kernel)
  · rw [vb_two (notSeven (.inr (.inl g)))]
    split
    · exact ok_none (by decide +kernel)
    · rename_i hno
      rcases val_cases hd.1 hd.2.1 with rfl | ⟨c1, i, rfl⟩ | ⟨c1, x, rfl, _⟩ | ⟨c1, p, rfl⟩
      · exact absurd rfl hno
      · rcases val_cases he.1 he.2.1 with rfl | ⟨_, j, rfl⟩ | ⟨c, _⟩ | ⟨c, _⟩
        · exact absurd rfl hno
        · exact (cntI_ok hd.2.2 he.2.2 hm hn).2 g
        · rw [c1] at c; exact absurd c (by decide +kernel)
        · rw [c1] at c; exact absurd c (by decide +kernel)
      · rcases val_cases he.1 he.2.1 with rfl | ⟨c, _⟩ | ⟨_, y, rfl, _⟩ | ⟨c, _⟩
        · exact absurd rfl hno
        · rw [c1] at c; exact absurd c (by decide +kernel)
        · exact cntS_cmp g
        · rw [c1] at c; exact absurd c (by decide +kernel)
      · rcases val_cases he.1 he.2.1 with rfl | ⟨c, _⟩ | ⟨c, _⟩ | ⟨_, q, rfl⟩
        · exact absurd rfl hno
        · rw [c1] at c; exact absurd c (by decide +kernel)
        · rw [c1] at c; exact absurd c (by decide +kernel)
        · exact cntB_ok
  · rcases g with rfl | rfl
    · rw [vb_and]; exact settle_ok
    · rw [vb_or]; exact settle_ok
  · rw [vb_two (notSeven (.inr (.inr rfl)))]
    split
    · exact ok_none (by decide +kernel)
    · rename_i hno
      rcases val_cases hd.1 hd.2.1 with rfl | ⟨c, _⟩ | ⟨_, x, rfl, hx⟩ | ⟨c, _⟩
      · exact absurd rfl hno
      · exact absurd c (by decide +kernel)
      · rcases val_cases he.1 he.2.1 with rfl | ⟨c, _⟩ | ⟨_, y, rfl, hy⟩ | ⟨c, _⟩
        · exact absurd rfl hno
        · exact absurd c (by decide +kernel)
        · show Ok "text" _ (cntS "glue" x y)
          unfold cntS
          rw [if_pos rfl]
          refine ⟨by decide +kernel, vd_text (textS_app hx hy), ?_⟩
          have h1 : x.length ≤ 40 * m := hd.2.2
          have h2 : y.length ≤ 40 * n := he.2.2
          show (x ++ y).length ≤ 40 * (1 + (m + n))
          rw [strLen_append]; omega
        · exact absurd c (by decide +kernel)
      · exact absurd c (by decide +kernel)
  · rw [vb_else]
    show Ok _ _ (if isNo d = true then e else d)
    split
    · exact he.le (by omega)
    · exact hd.le (by omega)
theorem val3_ok {a b c k : Str} {m n o : Nat} {d e f : PyData} (h : kindB "if" [a, b, c] = some k) (he : Ok b n e) (hf : Ok c o f) : Ok k (1 + (m + n + o)) (valB "if" [d, e, f]) := by
  obtain ⟨_, rfl, rfl⟩ := ife_cases h
  rw [vb_if]
  show Ok _ _ (if isB true d = true then e else f)
  split
  · exact he.le (by omega)
  · exact hf.le (by omega)
end Z
set_option Elab.async false
set_option linter.all false
set_option autoImplicit false
set_option maxRecDepth 100000
set_option maxHeartbeats 4000000
/-! the folded expression -/
namespace Z
open PySem PySem.Spec PyProof.Rows L2
def constE : Ex → Bool
  | .val _ _ => true
  | _ => false
def vkE : Ex → Str
  | .val k _ => k
  | _ => ""
def vvE : Ex → PyData
  | .val _ v => v
  | _ => .none
def truthE : Ex → Option Bool
  | .val _ (.bool b) => some b
  | _ => none
def pairE (w : Str) (a b : Ex) : Ex :=
  match truthE a with
  | some t => if t = decide (w = "or") then a else b
  | none => match truthE b with
    | some t => if t = decide (w = "or") then b else a
    | none => .two w a b
def notE (a : Ex) : Ex := if a.word = "not" then a.parts.headD a else .one "not" a
def cutE : Ex → Ex
  | .one w a => if w = "not" then notE a else .one w a
  | .two w a b => if w = "and" ∨ w = "or" then pairE w a b else if w = "else" ∧ constE a = true then (if isNo (vvE a) = true then b else a) else .two w a b
  | .ife a b c => if constE a = true then (if isB true (vvE a) = true then b else c) else .ife a b c
  | e => e
def opE (e : Ex) : Ex :=
  if e.parts.all constE = true then
    match kindB e.word (e.parts.map vkE) with
    | some k => .val k (valB e.word (e.parts.map vvE))
    | none => cutE e
  else cutE e
def foldE : Ex → Ex
  | .col n => .col n
  | .val k v => .val k v
  | .one w x => opE (.one w (foldE x))
  | .two w x y => opE (.two w (foldE x) (foldE y))
  | .ife x y z => opE (.ife (foldE x) (foldE y) (foldE z))
/-- of one of the forms, within limits -/
structure Good (N L M : Nat) (e : Ex) : Prop where
  wf : e.wf = true
  nodes : e.nodes ≤ N
  levels : e.levels ≤ L
  bd : e.bd M
theorem Good.le {N L M N2 L2 M2 : Nat} {e : Ex} (g : Good N L M e) (a : N ≤ N2) (b : L ≤ L2) (c : M ≤ M2) : Good N2 L2 M2 e := ⟨g.wf, Nat.le_trans g.nodes a, Nat.le_trans g.levels b, Ex.bd_le c g.bd⟩
theorem flat_ok {k : Str} {m : Nat} {d : PyData} (h : Ok k m d) (hm : m ≤ 10000) : flatD d = true := by
  rcases val_cases h.1 h.2.1 with rfl | ⟨_, i, rfl⟩ | ⟨_, z, rfl, _⟩ | ⟨_, b, rfl⟩
  · rfl
  · rfl
  · have hz : z.length ≤ 40 * m := h.2.2
    exact decide_eq_true (by omega)
  · rfl
theorem good_val {k : Str} {m N L : Nat} {d : PyData} (h : Ok k m d) (hm : m ≤ 10000) (hN : 1 ≤ N) (hL : 1 ≤ L) : Good N L m (.val k d) := ⟨by simp only [Ex.wf, Bool.and_eq_true]; exact ⟨h.1, h.2.1, flat_ok h hm⟩, hN, hL, h.2.2⟩
theorem const_ok {N L M : Nat} {e : Ex} (g : Good N L M e) (h : constE e = true) : e = .val (vkE e) (vvE e) ∧ Ok (vkE e) M (vvE e) := by
  cases e with
  | val k v =>
    have := g.wf
    simp only [Ex.wf, Bool.and_eq_true] at this
    exact ⟨rfl, this.1, this.2.1, g.bd⟩
  | _ => cases h
theorem good_one {N L M : Nat} {w : Str} {x : Ex} (hw : w ∈ onesL) (g : Good N L M x) : Good (1 + N) (1 + L) M (.one w x) :=
  ⟨by simp only [Ex.wf, Bool.and_eq_true]; exact ⟨by simpa using hw, g.wf⟩, by have := g.nodes; simp only [Ex.nodes]; omega, by have := g.levels; simp only [Ex.levels]; omega, g.bd⟩
theorem good_two {N1 N2 L1 L2 M1 M2 : Nat} {w : Str} {x y : Ex} (hw : w ∈ twosL) (g : Good N1 L1 M1 x) (h : Good N2 L2 M2 y) : Good (1 + (N1 + N2)) (1 + max L1 L2) (M1 + M2) (.two w x y) :=
  ⟨by simp only [Ex.wf, Bool.and_eq_true]; exact ⟨by simpa using hw, g.wf, h.wf⟩, by have := g.nodes; have := h.nodes; simp only [Ex.nodes]; omega, by have := g.levels; have := h.levels; simp only [Ex.levels]; omega, Ex.bd_le (by omega) g.bd, Ex.bd_le (by omega) h.bd⟩
theorem good_ife {N1 N2 N3 L1 L2 L3 M1 M2 M3 : Nat} {x y z : Ex} (g : Good N1 L1 M1 x) (h : Good N2 L2 M2 y) (i : Good N3 L3 M3 z) : Good (1 + (N1 + N2 + N3)) (1 + max L1 (max L2 L3)) (M1 + M2 + M3) (.ife x y z) :=
  ⟨by simp only [Ex.wf, Bool.and_eq_true]; exact ⟨g.wf, h.wf, i.wf⟩, by have := g.nodes; have := h.nodes; have := i.nodes; simp only [Ex.nodes]; omega, by have := g.levels; have := h.levels; have := i.levels; simp only [Ex.levels]; omega, Ex.bd_le (by omega) g.bd, Ex.bd_le (by omega) h.bd, Ex.bd_le (by omega) i.bd⟩
theorem fold1_ok {N L M : Nat} {w : Str} {x : Ex} (hw : w ∈ onesL) (g : Good N L M x) (hM : M ≤ 9999) : Good (1 + N) (1 + L) (1 + M) (opE (.one w x)) := by
  have hc : Good (1 + N) (1 + L) (1 + M) (cutE (.one w x)) := by
    have h0 := (good_one hw g).le (Nat.le_refl _) (Nat.le_refl _) (show M ≤ 1 + M by omega)
    show Good _ _ _ (if w = "not" then notE x else .one w x)
    split
    · rename_i e; subst e
      unfold notE
      split
      · cases x with
        | col n => exact g.le (by omega) (by omega) (by omega)
        | val k v => exact g.le (by omega) (by omega) (by omega)
        | one w2 y => exact ⟨Ex.wf_part g.wf (List.mem_singleton.mpr rfl), by have := g.nodes; simp only [Ex.nodes] at this; show y.nodes ≤ _; omega, by have := g.levels; simp only [Ex.levels] at this; show y.levels ≤ _; omega, Ex.bd_le (by omega) (Ex.bd_part g.bd (List.mem_singleton.mpr rfl))⟩
        | two w2 a b => exact ⟨Ex.wf_part g.wf (List.mem_cons_self ..), by have := g.nodes; simp only [Ex.nodes] at this; show a.nodes ≤ _; omega, by have := g.levels; simp only [Ex.levels] at this; show a.levels ≤ _; omega, Ex.bd_le (by omega) (Ex.bd_part g.bd (List.mem_cons_self ..))⟩
        | ife a b c => exact ⟨Ex.wf_part g.wf (List.mem_cons_self ..), by have := g.nodes; simp only [Ex.nodes] at this; show a.nodes ≤ _; omega, by have := g.levels; simp only [Ex.levels] at this; show a.levels ≤ _; omega, Ex.bd_le (by omega) (Ex.bd_part g.bd (List.mem_cons_self ..))⟩
      · exact h0
    · exact h0
  unfold opE
  split
  · rename_i h
    have hx : constE x = true := by simpa [Ex.parts] using h
    split
    · rename_i k hk
      have := (const_ok g hx).2
      exact good_val (val1_ok hw hk this) (by omega) (by omega) (by omega)
    · exact hc
  · exact hc
theorem fold2_ok {N1 N2 L1 L2 M1 M2 : Nat} {w : Str} {x y : Ex} (hw : w ∈ twosL) (g : Good N1 L1 M1 x) (h : Good N2 L2 M2 y) (hM : M1 + M2 ≤ 9999) (h1 : 1 ≤ M1) (h2 : 1 ≤ M2) : Good (1 + (N1 + N2)) (1 + max L1 L2) (1 + (M1 + M2)) (opE (.two w x y)) := by
  have hx : Good (1 + (N1 + N2)) (1 + max L1 L2) (1 + (M1 + M2)) x := g.le (by omega) (by omega) (by omega)
  have hy : Good (1 + (N1 + N2)) (1 + max L1 L2) (1 + (M1 + M2)) y := h.le (by omega) (by omega) (by omega)
  have hc : Good (1 + (N1 + N2)) (1 + max L1 L2) (1 + (M1 + M2)) (cutE (.two w x y)) := by
    have h0 := (good_two hw g h).le (Nat.le_refl _) (Nat.le_refl _) (show M1 + M2 ≤ 1 + (M1 + M2) by omega)
    show Good _ _ _ (if w = "and" ∨ w = "or" then pairE w x y else if w = "else" ∧ constE x = true then (if isNo (vvE x) = true then y else x) else .two w x y)
    split
    · unfold pairE
      split
      · split
        · exact hx
        · exact hy
      · split
        · split
          · exact hy
          · exact hx
        · exact h0
    · split
      · split
        · exact hy
        · exact hx
      · exact h0
  unfold opE
  split
  · rename_i hh
    have hh2 : constE x = true ∧ constE y = true := by simpa [Ex.parts] using hh
    split
    · rename_i k hk
      exact good_val (val2_ok hw hk (const_ok g hh2.1).2 (const_ok h hh2.2).2 h1 h2) (by omega) (by omega) (by omega)
    · exact hc
  · exact hc
theorem fold3_ok {N1 N2 N3 L1 L2 L3 M1 M2 M3 : Nat} {x y z : Ex} (g : Good N1 L1 M1 x) (h : Good N2 L2 M2 y) (i : Good N3 L3 M3 z) (hM : M1 + M2 + M3 ≤ 9999) : Good (1 + (N1 + N2 + N3)) (1 + max L1 (max L2 L3)) (1 + (M1 + M2 + M3)) (opE (.ife x y z)) := by
  have hc : Good (1 + (N1 + N2 + N3)) (1 + max L1 (max L2 L3)) (1 + (M1 + M2 + M3)) (cutE (.ife x y z)) := by
    have h0 := (good_ife g h i).le (Nat.le_refl _) (Nat.le_refl _) (show M1 + M2 + M3 ≤ 1 + (M1 + M2 + M3) by omega)
    show Good _ _ _ (if constE x = true then (if isB true (vvE x) = true then y else z) else .ife x y z)
    split
    · split
      · exact h.le (by omega) (by omega) (by omega)
      · exact i.le (by omega) (by omega) (by omega)
    · exact h0
  unfold opE
  split
  · rename_i hh
    have hh2 : constE x = true ∧ constE y = true ∧ constE z = true := by simpa [Ex.parts] using hh
    split
    · rename_i k hk
      exact good_val (val3_ok hk (const_ok h hh2.2.1).2 (const_ok i hh2.2.2).2) (by omega) (by omega) (by omega)
    · exact hc
  · exact hc
theorem fold_ok : ∀ (e : Ex), e.wf = true → e.bd 1 → e.nodes ≤ 9000 → Good e.nodes e.levels e.nodes (foldE e)
  | .col n, h, b, hn => ⟨h, Nat.le_refl _, Nat.le_refl _, trivial⟩
  | .val k v, h, b, hn => ⟨h, Nat.le_refl _, Nat.le_refl _, b⟩
  | .one w x, h, b, hn => by
    simp only [Ex.wf, Bool.and_eq_true] at h
    simp only [Ex.nodes] at hn
    exact fold1_ok (by simpa using h.1) (fold_ok x h.2 b (by omega)) (by omega)
  | .two w x y, h, b, hn => by
    simp only [Ex.wf, Bool.and_eq_true] at h
    simp only [Ex.nodes] at hn
    exact fold2_ok (by simpa using h.1) (fold_ok x h.2.1 b.1 (by omega)) (fold_ok y h.2.2 b.2 (by omega)) (by omega) x.nodes_pos y.nodes_pos
  | .ife x y z, h, b, hn => by
    simp only [Ex.wf, Bool.and_eq_true] at h
    simp only [Ex.nodes] at hn
    exact fold3_ok (fold_ok x h.1 b.1 (by omega)) (fold_ok y h.2.1 b.2.1 (by omega)) (fold_ok z h.2.2 b.2.2 (by omega)) (by omega)
/-! shown -/
theorem str_shown {z : Str} (h : z.cps.toList.all (fun c => decide (c < 16 ^ 8)) = true) : (PyData.shown (.str z)).length ≤ 10 * z.length + 2 := by
  refine PySem.StrLaws.reprText_len z fun c hc => ?_
  exact of_decide_eq_true (List.all_eq_true.mp h c hc)
theorem Ex.showable : ∀ {e : Ex}, e.wf = true → e.bd 40 → e.d.showable = true := by
  intro e
  induction e with
  | col n => intro _ _; rfl
  | val k v =>
    intro h b
    simp only [Ex.wf, Bool.and_eq_true] at h
    rcases val_cases h.1 h.2.1 with rfl | ⟨_, i, rfl⟩ | ⟨_, z, rfl, _⟩ | ⟨_, c, rfl⟩
    · rfl
    · have hb : i.natAbs < 2 ^ (44 * 40) := b
      have := PySem.Flt.log2_lt_of (by decide) hb
      simp only [Ex.d, PyData.showable, PyData.showableAll, Bool.and_true, Bool.true_and, decide_eq_true_eq]
      omega
    · rfl
    · rfl
  | one w x ih =>
    intro h b
    simp only [Ex.wf, Bool.and_eq_true] at h
    simp [Ex.d, PyData.showable, PyData.showableAll, ih h.2 b]
  | two w x y ih1 ih2 =>
    intro h b
    simp only [Ex.wf, Bool.and_eq_true] at h
    simp [Ex.d, PyData.showable, PyData.showableAll, ih1 h.2.1 b.1, ih2 h.2.2 b.2]
  | ife x y z ih1 ih2 ih3 =>
    intro h b
    simp only [Ex.wf, Bool.and_eq_true] at h
    simp [Ex.d, PyData.showable, PyData.showableAll, ih1 h.1 b.1, ih2 h.2.1 b.2.1, ih3 h.2.2 b.2.2]
theorem Ex.depth : ∀ (e : Ex), flatD .none = true → e.wf = true → e.d.depth ≤ e.levels := by
  intro e h0
  have dm : ∀ a b : Nat, max a b ≤ max a b := fun _ _ => Nat.le_refl _
  induction e with
  | col n => intro _; exact Nat.le_refl 1
  | val k v =>
    intro h
    simp only [Ex.wf, Bool.and_eq_true] at h
    rcases val_cases h.1 h.2.1 with rfl | ⟨_, i, rfl⟩ | ⟨_, z, rfl, _⟩ | ⟨_, c, rfl⟩ <;> exact Nat.le_refl 1
  | one w x ih =>
    intro h
    simp only [Ex.wf, Bool.and_eq_true] at h
    have := ih h.2
    simp only [Ex.d, PyData.depth, PyData.depthAll, Ex.levels]
    omega
  | two w x y ih1 ih2 =>
    intro h
    simp only [Ex.wf, Bool.and_eq_true] at h
    have := ih1 h.2.1
    have := ih2 h.2.2
    simp only [Ex.d, PyData.depth, PyData.depthAll, Ex.levels]
    omega
  | ife x y z ih1 ih2 ih3 =>
    intro h
    simp only [Ex.wf, Bool.and_eq_true] at h
    have := ih1 h.1
    have := ih2 h.2.1
    have := ih3 h.2.2
    simp only [Ex.d, PyData.depth, PyData.depthAll, Ex.levels]
    omega
theorem textS_small {z : Str} (h : textS z = true) : z.cps.toList.all (fun c => decide (c < 16 ^ 8)) = true := by
  simp only [textS, Txt.isascii, Bool.and_eq_true] at h
  rw [List.all_eq_true]
  intro c hc
  have := Array.all_eq_true_iff_forall_mem.mp h.1 c (Array.mem_toList_iff.mp hc)
  have h2 : c < 128 := by simpa using this
  exact decide_eq_true (Nat.lt_trans h2 (by decide))
theorem nameS_tiny {z : Str} (h : nameS z = true) : z.length ≤ 8 ∧ z.cps.toList.all (fun c => decide (c < 16 ^ 8)) = true := by
  simp only [nameS, Bool.and_eq_true, decide_eq_true_eq] at h
  refine ⟨h.1.2, ?_⟩
  rw [List.all_eq_true]
  intro c hc
  have := List.all_eq_true.mp h.2 c hc
  have h2 := of_decide_eq_true this
  exact decide_eq_true (Nat.lt_of_le_of_lt h2.2 (by decide))
theorem word_shown {w : Str} (h : w ∈ onesL ++ twosL ++ (["if", "col", "value", "int", "text", "bool"] : List Str)) : (PyData.shown (.str w)).length ≤ 100 := by
  have : ((onesL ++ twosL ++ (["if", "col", "value", "int", "text", "bool"] : List Str)).all fun w => decide (w.length ≤ 8) && w.cps.toList.all (fun c => decide (c < 16 ^ 8))) = true := by decide +kernel
  have := List.all_eq_true.mp this w h
  rw [Bool.and_eq_true, decide_eq_true_eq] at this
  have h2 := str_shown this.2
  omega
theorem Ex.shown_le : ∀ {e : Ex}, e.wf = true → e.bd 40 → e.d.shown.length ≤ 17000 * e.nodes := by
  intro e
  induction e with
  | col n =>
    intro h _
    have h1 := nameS_tiny h
    have h2 := str_shown h1.2
    have h3 : (PyData.shown (.str "col")).length ≤ 100 := word_shown (by decide +kernel)
    have h4 := tupleText_len_le (PyData.shownAll [.str "col", .str n])
    simp only [Ex.d, PyData.shown, PyData.shownAll, List.map_cons, List.map_nil, List.sum_cons, List.sum_nil, List.length_cons, List.length_nil, Ex.nodes] at h2 h3 h4 ⊢
    omega
  | val k v =>
    intro h b
    simp only [Ex.wf, Bool.and_eq_true] at h
    have h3 : (PyData.shown (.str "value")).length ≤ 100 := word_shown (by decide +kernel)
    have h5 : (PyData.shown (.str k)).length ≤ 100 := by
      have hk := h.1
      simp only [kindS, Bool.or_eq_true] at hk
      rcases hk with (e | e) | e <;> (have := eq_of_beq e; subst this; exact word_shown (by decide +kernel))
    have h6 : (PyData.shown v).length ≤ 16010 := by
      rcases val_cases h.1 h.2.1 with rfl | ⟨_, i, rfl⟩ | ⟨_, z, rfl, hz⟩ | ⟨_, c, rfl⟩
      · decide
      · have hb : i.natAbs < 2 ^ (44 * 40) := b
        have := PySem.Flt.log2_lt_of (by decide) hb
        have h7 := int_text_len_1921 (i := i) (by omega)
        show (PySem.Str.ofString (toString i)).length ≤ _
        omega
      · have hb : z.length ≤ 40 * 40 := b
        have := str_shown (textS_small hz)
        omega
      · cases c <;> decide
    have h4 := tupleText_len_le (PyData.shownAll [.str "value", .str k, v])
    simp only [Ex.d, PyData.shown, PyData.shownAll, List.map_cons, List.map_nil, List.sum_cons, List.sum_nil, List.length_cons, List.length_nil, Ex.nodes] at h3 h4 h5 h6 ⊢
    omega
  | one w x ih =>
    intro h b
    simp only [Ex.wf, Bool.and_eq_true] at h
    have hw : w ∈ onesL := by simpa using h.1
    have h3 := word_shown (w := w) (by simp [hw])
    have h5 := ih h.2 b
    have h4 := tupleText_len_le (PyData.shownAll [.str w, x.d])
    simp only [Ex.d, PyData.shown, PyData.shownAll, List.map_cons, List.map_nil, List.sum_cons, List.sum_nil, List.length_cons, List.length_nil, Ex.nodes] at h3 h4 h5 ⊢
    omega
  | two w x y ih1 ih2 =>
    intro h b
    simp only [Ex.wf, Bool.and_eq_true] at h
    have hw : w ∈ twosL := by simpa using h.1
    have h3 := word_shown (w := w) (by simp [hw])
    have h5 := ih1 h.2.1 b.1
    have h6 := ih2 h.2.2 b.2
    have h4 := tupleText_len_le (PyData.shownAll [.str w, x.d, y.d])
    simp only [Ex.d, PyData.shown, PyData.shownAll, List.map_cons, List.map_nil, List.sum_cons, List.sum_nil, List.length_cons, List.length_nil, Ex.nodes] at h3 h4 h5 h6 ⊢
    omega
  | ife x y z ih1 ih2 ih3 =>
    intro h b
    simp only [Ex.wf, Bool.and_eq_true] at h
    have h3 : (PyData.shown (.str "if")).length ≤ 100 := word_shown (by decide +kernel)
    have h5 := ih1 h.1 b.1
    have h6 := ih2 h.2.1 b.2.1
    have h7 := ih3 h.2.2 b.2.2
    have h4 := tupleText_len_le (PyData.shownAll [.str "if", x.d, y.d, z.d])
    simp only [Ex.d, PyData.shown, PyData.shownAll, List.map_cons, List.map_nil, List.sum_cons, List.sum_nil, List.length_cons, List.length_nil, Ex.nodes] at h3 h4 h5 h6 h7 ⊢
    omega
end Z
set_option Elab.async false
set_option linter.all false
set_option autoImplicit false
set_option maxRecDepth 100000
set_option maxHeartbeats 4000000
/-! operations on values of any kind -/
namespace Z
open PySem PySem.Spec PyProof.Rows L2
section
variable {X : Cx}
theorem op_or {f : Value → Value → Sem Value} {r1 r2 : V → V → Hp → VK → Prop} (h1 : OpR X f r1) (h2 : OpR X f r2) : OpR X f (fun x y H Q => r1 x y H Q ∨ r2 x y H Q) := by
  intro pins s σ H x y v u Q I rx ry h
  rcases h with h | h
  · exact h1 pins s σ H x y v u Q I rx ry h
  · exact h2 pins s σ H x y v u Q I rx ry h
def rAddA : V → V → Hp → VK → Prop := fun x y H Q => (∃ i j, x = .int i ∧ y = .int j ∧ Q (.int (i + j)) H) ∨ (∃ i j, x = .str i ∧ y = .str j ∧ i.length + j.length ≤ sizeLine ∧ Q (.str (i ++ j)) H)
theorem op_addA : OpR X (binaryOp .Add) rAddA := op_or op_add op_add_str
def rLtA : V → V → Hp → VK → Prop := fun x y H Q => (∃ i j, x = .int i ∧ y = .int j ∧ Q (.bl (decide (i < j))) H) ∨ (∃ i j, x = .str i ∧ y = .str j ∧ Q (.bl (decide (i.cps.toList < j.cps.toList))) H) ∨ (∃ i j, x = .bl i ∧ y = .bl j ∧ Q (.bl (decide (b2i i < b2i j))) H)
theorem op_ltA : OpR X (compareOp .Lt) rLtA := by
  refine op_or op_lt (op_or op_lt_str ?_)
  intro pins s σ H x y v u Q I rx ry h
  obtain ⟨i, j, rfl, rfl, q⟩ := h
  cases (show v = Value.bool i from rx)
  cases (show u = Value.bool j from ry)
  exact lt_bool (fin_bl I q rfl)
def rLeA : V → V → Hp → VK → Prop := fun x y H Q => (∃ i j, x = .int i ∧ y = .int j ∧ Q (.bl (decide (i ≤ j))) H) ∨ (∃ i j, x = .str i ∧ y = .str j ∧ Q (.bl (!decide (j.cps.toList < i.cps.toList))) H) ∨ (∃ i j, x = .bl i ∧ y = .bl j ∧ Q (.bl (decide (b2i i ≤ b2i j))) H)
theorem op_leA : OpR X (compareOp .LtE) rLeA := by
  refine op_or op_le (op_or op_le_str ?_)
  intro pins s σ H x y v u Q I rx ry h
  obtain ⟨i, j, rfl, rfl, q⟩ := h
  cases (show v = Value.bool i from rx)
  cases (show u = Value.bool j from ry)
  exact le_bool (fin_bl I q rfl)
/-- x is True, x is False: a value of any kind -/
def rIsX : V → V → Hp → VK → Prop := fun x y H Q => ∃ b : Bool, y = .bl b ∧ flatV x = true ∧ Q (.bl (decide (x = .bl b))) H
theorem op_isX : OpR X (compareOp .Is) rIsX := by
  intro pins s σ H x y v u Q I rx ry h
  obtain ⟨b, rfl, hf, q⟩ := h
  cases (show u = Value.bool b from ry)
  cases x with
  | non => cases rx; exact wpAny_is_other rfl (by intro c; cases c) (fin_bl I q (by simp))
  | bl a =>
    cases (show v = Value.bool a from rx)
    by_cases e : a = b
    · subst e
      exact wpAny_is_self rfl (fin_bl I q (by simp))
    · exact wpAny_is_other rfl (fun z => e (Value.bool.inj z)) (fin_bl I q (by simp [e]))
  | int i => obtain ⟨t, rfl⟩ := rx; exact wpAny_is_other rfl (by intro c; cases c) (fin_bl I q (by simp))
  | str i => obtain ⟨t, rfl⟩ := rx; exact wpAny_is_other rfl (by intro c; cases c) (fin_bl I q (by simp))
  | _ => exact absurd (show false = true from hf) Bool.false_ne_true
def CDivX (_ j : Int) : Prop := j ≠ 0 ∧ j.natAbs.log2 < 9000
theorem op_fdivX : OpR X (binaryOp .FloorDiv) (rI CDivX fun i j => .int (i.fdiv j)) := opI fun _ _ _ _ _ _ _ hc q => floordiv_int hc.1 q (.inl (PyProof.noPylong_of_log2 hc.2))
def rDivmodX : List V → Hp → VK → Prop := fun xs H Q => ∃ i j, xs = [.int i, .int j] ∧ CDivX i j ∧ ∀ p, H p = none → Q (.ref p) (upd H p (.tup [.int (i.fdiv j), .int (i.fmod j)]))
theorem call_divmodX : CallR X (.builtin "divmod") rDivmodX := by
  intro pins s σ H xs us Q I r h
  obtain ⟨i, j, rfl, ⟨h1, h2⟩, q⟩ := h
  obtain ⟨u, w', rfl, ⟨t, rfl⟩, ⟨t', rfl⟩⟩ := vals2 r
  refine divmod_int h1 ?_ (.inl (PyProof.noPylong_of_log2 h2))
  have hn : H s.heap.objs.size = none := I.hok.fresh (Nat.le_refl _)
  refine ⟨.ref s.heap.objs.size, _, ?_, rfl, q _ hn⟩
  refine I.laid (fun b o e => Heap.get?_push_of_some _ e) (Nat.le_refl _) ⟨by simp only [List.length_cons, List.length_nil]; rw [sizeLine_eq]; decide, [.int (i.fdiv j) s.toks, .int (i.fmod j) (s.toks + 1)], .cons ⟨_, rfl⟩ (.cons ⟨_, rfl⟩ .nil), ?_⟩
  exact ⟨_, Heap.get?_push_size s.heap rfl, rfl, 0, rfl⟩
end
theorem flat_da {K : PySem.W.Frag} {H : Hp} {d : PyData} (h : flatD d = true) : Da K H (toV d) d := by
  cases d with
  | none => exact .non
  | bool b => exact .bl b
  | int i => exact .int i
  | str z => exact .str z (of_decide_eq_true h)
  | _ => cases h
theorem da_toV {K : PySem.W.Frag} {H : Hp} {v : V} {d : PyData} (h : Da K H v d) (hf : flatD d = true) : v = toV d := by
  cases h <;> first | rfl | cases hf
theorem toV_flat (d : PyData) : flatV (toV d) = true := by cases d <;> rfl
theorem toV_no {d : PyData} (h : flatD d = true) : decide (toV d = .non) = isNo d := by
  cases d <;> first | rfl | (cases h; done) | skip
theorem toV_bl {d : PyData} {b : Bool} : decide (toV d = .bl b) = isB b d := by
  cases d with
  | bool c => simp only [toV, isB]; cases b <;> cases c <;> rfl
  | _ => rfl
theorem Ok.flat {k : Str} {m : Nat} {d : PyData} (h : Ok k m d) (hm : m ≤ 10000) : flatD d = true := flat_ok h hm
end Z
set_option Elab.async false
set_option linter.all false
set_option autoImplicit false
set_option maxRecDepth 100000
set_option maxHeartbeats 4000000
namespace Z
open PySem PySem.Spec PyProof.Rows L2
section
variable {X : Cx} {K : PySem.W.Frag}
theorem k_any (hc : X.calm = true) (h : X.K = K := by rfl) : CallR X (.builtin "any") (rAny K) := by subst h; exact cr_any hc
theorem k_repr {j : Nat} (hr : Room j X.A) (st : Still X.A) (h : X.K = K := by rfl) : CallR X (.builtin "repr") (rRepr K) := by
  subst h
  exact call_reprD st (by have := hr.un; omega)
end
end Z
set_option Elab.async false
set_option linter.all false
set_option autoImplicit false
set_option maxRecDepth 100000
set_option maxHeartbeats 4000000
namespace Z
open PySem PySem.Spec PyProof.Rows L2
/-- two values of an operation of two parts: typed, bounded, none of them missing -/
def Two (w a b : Str) (d e : PyData) : Prop := w ∈ twosL ∧ (∃ k, kindB w [a, b] = some k) ∧ Ok a 40 d ∧ Ok b 40 e ∧ isNo d = false ∧ isNo e = false
def spQuot : Sp := fun vs H Q _ => ∃ (z : Str) (i j : Int), vs = [.str z, .int i, .int j] ∧ j.natAbs < 2 ^ (44 * 40) ∧ (z = "div" ∨ z = "mod") ∧ ∀ H', Same H H' → Q (toV (cntI z i j)) H'
def spTwo : Sp := fun vs H Q _ => ∃ (z a b : Str) (d e : PyData), vs = [.str z, toV d, toV e] ∧ Two z a b d e ∧ (z = "and" ∨ z = "or" ∨ z = "else" → False) ∧ ∀ H', Same H H' → Q (toV (cnt2 z d e)) H'
def spSettled (K : PySem.W.Frag) : Sp := fun vs H Q _ => ∃ (a : Addr) (ds : List PyData) (b : Bool), vs = [.ref a, .bl b] ∧ SqL K H a (ds.map toV) ∧ (∀ d ∈ ds, Ok "bool" 40 d) ∧ ds.length ≤ 3 ∧ ∀ H', Same H H' → Q (toV (settle b ds)) H'
theorem all_iff {p q : Prop} [Decidable p] [Decidable q] (h : p ↔ q) : decide p = decide q := by
  by_cases c : p
  · rw [decide_eq_true c, decide_eq_true (h.mp c)]
  · rw [decide_eq_false c, decide_eq_false (fun d => c (h.mpr d))]
section
variable {P : Program} {w : World} {K : PySem.W.Frag} {mg : Str → Option Value} {base : Heap}
theorem kn_quotient (D : Def0 K mg "quotient" (top 10)) (T : TxtE K w mg) : Kn P w K mg base CX0 "quotient" 1 ["word", "one", "other"] [] spQuot := by
  obtain ⟨f, fd, F, m⟩ := D
  have sc_ : FnScope ["word", "one", "other", "whole", "rest"] ["word", "one", "other"] (defScope (top 10)) := ⟨rfl, rfl, rfl, by decide +kernel, rfl, by decide +kernel, by decide +kernel⟩
  refine kn_of F m (F.ok sc_ (fun vs H Q E h => ?_) (fun cdv A outer s H vs Q E hr h => ?_)) (F.bindsN fun _ _ _ _ _ _ us hl => match us, hl with | [_, _, _], _ => rfl)
  · obtain ⟨z, i, j, rfl, _⟩ := h; rfl
  · obtain ⟨z, i, j, rfl, hj, hz, q⟩ := h
    refine ⟨_, PSs.nox (pss_cons (ps_if (pt_cmpR op_eq (pv 2) pe_int (nomark _)) (pss_one (ps_ret pe_non)) pss_nil)
      (pss_cons (ps_asg (pe_callB call_divmodX (by rfl) T.z_divmod (by decide +kernel) (pa_cons (pv 1) (pa_cons (pv 2) pa_nil))) (k_pgT (K := K) (pgs_cons (pg_name (i := 3) sc_.nd rfl (by first | exact Or.inl rfl | exact Or.inr rfl)) (pgs_cons (pg_name (i := 4) sc_.nd rfl (by first | exact Or.inl rfl | exact Or.inr rfl)) pgs_nil))))
      (pss_one (ps_ret (pe_ifExp (pt_cmpR op_eq (pv 0) pe_str (nomark _)) (pv 3) (pv 4)))))), ?_⟩
    have hu : cntI z i j = if j = 0 then .none else if z = "div" then .int (i.fdiv j) else .int (i.fmod j) := by
      unfold cntI
      rcases hz with rfl | rfl
      · rw [if_neg (by decide +kernel : ¬ ("div" : Str) = "add"), if_neg (by decide +kernel : ¬ ("div" : Str) = "sub"), if_neg (by decide +kernel : ¬ ("div" : Str) = "mul"), if_neg (by decide +kernel : ¬ ("div" : Str) = "eq"), if_neg (by decide +kernel : ¬ ("div" : Str) = "lt"), if_neg (by decide +kernel : ¬ ("div" : Str) = "le")]
      · rw [if_neg (by decide +kernel : ¬ ("mod" : Str) = "add"), if_neg (by decide +kernel : ¬ ("mod" : Str) = "sub"), if_neg (by decide +kernel : ¬ ("mod" : Str) = "mul"), if_neg (by decide +kernel : ¬ ("mod" : Str) = "eq"), if_neg (by decide +kernel : ¬ ("mod" : Str) = "lt"), if_neg (by decide +kernel : ¬ ("mod" : Str) = "le")]
    rw [hu] at q
    refine ⟨_, rfl, rfl, _, rfl, ?_⟩
    by_cases h0 : j = 0
    · rw [decide_eq_true (congrArg V.int h0)]
      rw [if_pos h0] at q
      exact iteT (q _ (Same.refl _))
    · rw [decide_eq_false (fun c => h0 (V.int.inj c))]
      rw [if_neg h0] at q
      have hl := PySem.Flt.log2_lt_of (by decide) hj
      refine iteF ⟨_, rfl, _, rfl, i, j, rfl, ⟨h0, by omega⟩, fun p hp => ?_⟩
      have e1 := same_new hp (o := .tup [.int (i.fdiv j), .int (i.fmod j)])
      refine ⟨p, _, rfl, SqT.of upd_same, rfl, _, _, rfl, _, _, rfl, rfl, ?_⟩
      refine ⟨_, rfl, rfl, _, rfl, ?_⟩
      by_cases hd : z = "div"
      · rw [decide_eq_true (congrArg V.str hd)]
        rw [if_pos hd] at q
        exact iteT ⟨_, rfl, q _ e1⟩
      · rw [decide_eq_false (fun c => hd (V.str.inj c))]
        rw [if_neg hd] at q
        exact iteF ⟨_, rfl, q _ e1⟩
theorem strs_in {z : Str} {l : List Str} : decide (z ∈ l) = true ↔ z ∈ l := by simp
theorem ci_add (i j : Int) : cntI "add" i j = .int (i + j) := by unfold cntI; rw [if_pos (rfl : ("add" : Str) = "add")]
theorem ci_sub (i j : Int) : cntI "sub" i j = .int (i - j) := by unfold cntI; rw [if_neg (by decide +kernel : ¬ ("sub" : Str) = "add"), if_pos (rfl : ("sub" : Str) = "sub")]
theorem ci_mul (i j : Int) : cntI "mul" i j = .int (i * j) := by unfold cntI; rw [if_neg (by decide +kernel : ¬ ("mul" : Str) = "add"), if_neg (by decide +kernel : ¬ ("mul" : Str) = "sub"), if_pos (rfl : ("mul" : Str) = "mul")]
theorem ci_eq (i j : Int) : cntI "eq" i j = .bool (decide (i = j)) := by unfold cntI; rw [if_neg (by decide +kernel : ¬ ("eq" : Str) = "add"), if_neg (by decide +kernel : ¬ ("eq" : Str) = "sub"), if_neg (by decide +kernel : ¬ ("eq" : Str) = "mul"), if_pos (rfl : ("eq" : Str) = "eq")]
theorem ci_lt (i j : Int) : cntI "lt" i j = .bool (decide (i < j)) := by unfold cntI; rw [if_neg (by decide +kernel : ¬ ("lt" : Str) = "add"), if_neg (by decide +kernel : ¬ ("lt" : Str) = "sub"), if_neg (by decide +kernel : ¬ ("lt" : Str) = "mul"), if_neg (by decide +kernel : ¬ ("lt" : Str) = "eq"), if_pos (rfl : ("lt" : Str) = "lt")]
theorem ci_le (i j : Int) : cntI "le" i j = .bool (decide (i ≤ j)) := by unfold cntI; rw [if_neg (by decide +kernel : ¬ ("le" : Str) = "add"), if_neg (by decide +kernel : ¬ ("le" : Str) = "sub"), if_neg (by decide +kernel : ¬ ("le" : Str) = "mul"), if_neg (by decide +kernel : ¬ ("le" : Str) = "eq"), if_neg (by decide +kernel : ¬ ("le" : Str) = "lt"), if_pos (rfl : ("le" : Str) = "le")]
theorem cs_glue (i j : Str) : cntS "glue" i j = .str (i ++ j) := by unfold cntS; rw [if_pos (rfl : ("glue" : Str) = "glue")]
theorem cs_eq (i j : Str) : cntS "eq" i j = .bool (decide (i = j)) := by unfold cntS; rw [if_neg (by decide +kernel : ¬ ("eq" : Str) = "glue"), if_pos (rfl : ("eq" : Str) = "eq")]
theorem cs_lt (i j : Str) : cntS "lt" i j = .bool (decide (i.cps.toList < j.cps.toList)) := by unfold cntS; rw [if_neg (by decide +kernel : ¬ ("lt" : Str) = "glue"), if_neg (by decide +kernel : ¬ ("lt" : Str) = "eq"), if_pos (rfl : ("lt" : Str) = "lt")]
theorem cs_le (i j : Str) : cntS "le" i j = .bool (!decide (j.cps.toList < i.cps.toList)) := by unfold cntS; rw [if_neg (by decide +kernel : ¬ ("le" : Str) = "glue"), if_neg (by decide +kernel : ¬ ("le" : Str) = "eq"), if_neg (by decide +kernel : ¬ ("le" : Str) = "lt")]
theorem cb_eq (i j : Bool) : cntB "eq" i j = .bool (decide (i = j)) := by unfold cntB; rw [if_pos (rfl : ("eq" : Str) = "eq")]
theorem cb_lt (i j : Bool) : cntB "lt" i j = .bool (decide (b2i i < b2i j)) := by unfold cntB; rw [if_neg (by decide +kernel : ¬ ("lt" : Str) = "eq"), if_pos (rfl : ("lt" : Str) = "lt")]
theorem cb_le (i j : Bool) : cntB "le" i j = .bool (decide (b2i i ≤ b2i j)) := by unfold cntB; rw [if_neg (by decide +kernel : ¬ ("le" : Str) = "eq"), if_neg (by decide +kernel : ¬ ("le" : Str) = "lt")]
theorem kn_value_of_two (D : Def0 K mg "value_of_two" (top 9)) (T : TxtE K w mg) (F_quotient : Kn P w K mg base CX0 "quotient" 1 ["word", "one", "other"] [] spQuot) : Kn P w K mg base CX0 "value_of_two" 2 ["word", "one", "other"] [] spTwo := by
  obtain ⟨f, fd, F, m⟩ := D
  have sc_ : FnScope ["word", "one", "other"] ["word", "one", "other"] (defScope (top 9)) := ⟨rfl, rfl, rfl, by decide +kernel, rfl, by decide +kernel, by decide +kernel⟩
  refine kn_of F m (F.ok sc_ (fun vs H Q E h => ?_) (fun cdv A outer s H vs Q E hr h => ?_)) (F.bindsN fun _ _ _ _ _ _ us hl => match us, hl with | [_, _, _], _ => rfl)
  · obtain ⟨z, a, b, d, e, rfl, _⟩ := h; rfl
  · obtain ⟨z, a, b, d, e, rfl, ⟨hw, ⟨k, hk⟩, hd, he, nd, ne⟩, hz, q⟩ := h
    refine ⟨_, PSs.nox (pss_cons (ps_if (pt_cmpR (k_in (K := K)) (pv 0) (pe_tup (pa_cons pe_str (pa_cons pe_str pa_nil))) (by rfl)) (pss_one (ps_ret (pe_op op_addA (pv 1) (pv 2)))) pss_nil)
      (pss_cons (ps_if (pt_cmpR op_eq (pv 0) pe_str (nomark _)) (pss_one (ps_ret (pe_op op_sub (pv 1) (pv 2)))) pss_nil)
      (pss_cons (ps_if (pt_cmpR op_eq (pv 0) pe_str (nomark _)) (pss_one (ps_ret (pe_op op_mulW (pv 1) (pv 2)))) pss_nil)
      (pss_cons (ps_if (pt_cmpR op_eq (pv 0) pe_str (nomark _)) (pss_one (ps_ret (pe_cmpR op_eq (pv 1) (pv 2) (nomark _)))) pss_nil)
      (pss_cons (ps_if (pt_cmpR op_eq (pv 0) pe_str (nomark _)) (pss_one (ps_ret (pe_cmpR op_ltA (pv 1) (pv 2) (nomark _)))) pss_nil)
      (pss_cons (ps_if (pt_cmpR op_eq (pv 0) pe_str (nomark _)) (pss_one (ps_ret (pe_cmpR op_leA (pv 1) (pv 2) (nomark _)))) pss_nil)
      (pss_one (ps_ret (pe_own F_quotient hr (by first | decide | omega | (simp only [Nat.add_eq]; omega)) pass0 (pa_cons (pv 0) (pa_cons (pv 1) (pa_cons (pv 2) pa_nil)))))))))))), ?_⟩
    refine ⟨_, rfl, l2k 2 (by decide), fun t1 ht1 => ?_⟩
    have e1 := same_new ht1 (o := .tup [.str "add", .str "glue"])
    refine ⟨t1, _, rfl, .inr (SqT.of upd_same), rfl, flat_strs ["add", "glue"], _, rfl, ?_⟩
    show (if inV (.str z) ((["add", "glue"] : List Str).map V.str) = true then _ else _)
    rw [inV_strs]
    have q1 := fun H' e => q H' (e1.trans e)
    generalize hg : upd H t1 (.tup [.str "add", .str "glue"]) = H1 at *
    rcases two_cases hw hk with ⟨g, rfl, rfl, rfl⟩ | ⟨g, rfl, rfl⟩ | ⟨g, _⟩ | ⟨rfl, rfl, rfl, rfl⟩ | ⟨rfl, _⟩
    · rcases val_cases hd.1 hd.2.1 with rfl | ⟨_, i, rfl⟩ | ⟨c, _⟩ | ⟨c, _⟩
      · cases nd
      · rcases val_cases he.1 he.2.1 with rfl | ⟨_, j, rfl⟩ | ⟨c, _⟩ | ⟨c, _⟩
        · cases ne
        · have bi : i.natAbs < 2 ^ (44 * 40) := hd.2.2
          have bj : j.natAbs < 2 ^ (44 * 40) := he.2.2
          have q2 : ∀ H', Same H1 H' → Q (toV (cntI z i j)) H' := q1
          simp only [arithL, List.mem_cons, List.not_mem_nil, or_false] at g
          rcases g with rfl | rfl | rfl | rfl | rfl
          · rw [decide_eq_true (by decide +kernel)]
            have := q2 _ (Same.refl _)
            rw [ci_add] at this
            exact iteT ⟨_, rfl, _, rfl, .inl ⟨i, j, rfl, rfl, this⟩⟩
          · rw [decide_eq_false (by decide +kernel)]
            refine iteF ⟨_, rfl, rfl, _, rfl, goT rfl ?_⟩
            have := q2 _ (Same.refl _)
            rw [ci_sub] at this
            exact ⟨_, rfl, _, rfl, i, j, rfl, rfl, this⟩
          · rw [decide_eq_false (by decide +kernel)]
            refine iteF ⟨_, rfl, rfl, _, rfl, goF (by decide +kernel) ⟨_, rfl, rfl, _, rfl, goT rfl ?_⟩⟩
            have := q2 _ (Same.refl _)
            rw [ci_mul] at this
            exact ⟨_, rfl, _, rfl, i, j, rfl, rfl, wide_mul bi bj (by decide) (by decide) (by decide), this⟩
          · rw [decide_eq_false (by decide +kernel)]
            refine iteF ⟨_, rfl, rfl, _, rfl, goF (by decide +kernel) ⟨_, rfl, rfl, _, rfl, goF (by decide +kernel) ⟨_, rfl, rfl, _, rfl, goF (by decide +kernel) ⟨_, rfl, rfl, _, rfl, goF (by decide +kernel) ⟨_, rfl, rfl, _, rfl, goF (by decide +kernel) ?_⟩⟩⟩⟩⟩
            exact ⟨_, rfl, _, rfl, _, rfl, _, i, j, rfl, bj, .inl rfl, q2⟩
          · rw [decide_eq_false (by decide +kernel)]
            refine iteF ⟨_, rfl, rfl, _, rfl, goF (by decide +kernel) ⟨_, rfl, rfl, _, rfl, goF (by decide +kernel) ⟨_, rfl, rfl, _, rfl, goF (by decide +kernel) ⟨_, rfl, rfl, _, rfl, goF (by decide +kernel) ⟨_, rfl, rfl, _, rfl, goF (by decide +kernel) ?_⟩⟩⟩⟩⟩
            exact ⟨_, rfl, _, rfl, _, rfl, _, i, j, rfl, bj, .inr rfl, q2⟩
        · exact absurd c (by decide +kernel)
        · exact absurd c (by decide +kernel)
      · exact absurd c (by decide +kernel)
      · exact absurd c (by decide +kernel)
    · have hneq : z ≠ "add" ∧ z ≠ "glue" ∧ z ≠ "sub" ∧ z ≠ "mul" := by
        have : (cmpL.all fun z => !(z == "add") && (!(z == "glue") && (!(z == "sub") && !(z == "mul")))) = true := by decide +kernel
        have := List.all_eq_true.mp this z g
        simpa using this
      rw [decide_eq_false (by simp [hneq.1, hneq.2.1])]
      refine iteF ⟨_, rfl, rfl, _, rfl, goF hneq.2.2.1 ⟨_, rfl, rfl, _, rfl, goF hneq.2.2.2 ⟨_, rfl, rfl, _, rfl, ?_⟩⟩⟩
      have two : ∃ (p : toV d ≠ .non ∧ toV e ≠ .non), scal (toV d) (toV e) = true ∧ (cnt2 "eq" d e = .bool (decide (toV d = toV e))) ∧ (∀ Q2 : VK, Q2 (toV (cnt2 "lt" d e)) H1 → rLtA (toV d) (toV e) H1 Q2) ∧ (∀ Q2 : VK, Q2 (toV (cnt2 "le" d e)) H1 → rLeA (toV d) (toV e) H1 Q2) := by
        rcases val_cases hd.1 hd.2.1 with rfl | ⟨c1, i, rfl⟩ | ⟨c1, x, rfl, _⟩ | ⟨c1, p, rfl⟩
        · cases nd
        · rcases val_cases he.1 he.2.1 with rfl | ⟨_, j, rfl⟩ | ⟨c, _⟩ | ⟨c, _⟩
          · cases ne
          · refine ⟨⟨(by intro c; cases c), (by intro c; cases c)⟩, rfl, ?_, fun Q2 h => .inl ⟨i, j, rfl, rfl, by rw [show cnt2 "lt" (.int i) (.int j) = cntI "lt" i j from rfl, ci_lt] at h; exact h⟩, fun Q2 h => .inl ⟨i, j, rfl, rfl, by rw [show cnt2 "le" (.int i) (.int j) = cntI "le" i j from rfl, ci_le] at h; exact h⟩⟩
            exact (ci_eq i j).trans (congrArg PyData.bool (all_iff ⟨fun h => congrArg V.int h, fun h => V.int.inj h⟩))
          · rw [c1] at c; exact absurd c (by decide +kernel)
          · rw [c1] at c; exact absurd c (by decide +kernel)
        · rcases val_cases he.1 he.2.1 with rfl | ⟨c, _⟩ | ⟨_, y, rfl, _⟩ | ⟨c, _⟩
          · cases ne
          · rw [c1] at c; exact absurd c (by decide +kernel)
          · refine ⟨⟨(by intro c; cases c), (by intro c; cases c)⟩, rfl, ?_, fun Q2 h => .inr (.inl ⟨x, y, rfl, rfl, by rw [show cnt2 "lt" (.str x) (.str y) = cntS "lt" x y from rfl, cs_lt] at h; exact h⟩), fun Q2 h => .inr (.inl ⟨x, y, rfl, rfl, by rw [show cnt2 "le" (.str x) (.str y) = cntS "le" x y from rfl, cs_le] at h; exact h⟩)⟩
            exact (cs_eq x y).trans (congrArg PyData.bool (all_iff ⟨fun h => congrArg V.str h, fun h => V.str.inj h⟩))
          · rw [c1] at c; exact absurd c (by decide +kernel)
        · rcases val_cases he.1 he.2.1 with rfl | ⟨c, _⟩ | ⟨c, _⟩ | ⟨_, p2, rfl⟩
          · cases ne
          · rw [c1] at c; exact absurd c (by decide +kernel)
          · rw [c1] at c; exact absurd c (by decide +kernel)
          · refine ⟨⟨(by intro c; cases c), (by intro c; cases c)⟩, rfl, ?_, fun Q2 h => .inr (.inr ⟨p, p2, rfl, rfl, by rw [show cnt2 "lt" (.bool p) (.bool p2) = cntB "lt" p p2 from rfl, cb_lt] at h; exact h⟩), fun Q2 h => .inr (.inr ⟨p, p2, rfl, rfl, by rw [show cnt2 "le" (.bool p) (.bool p2) = cntB "le" p p2 from rfl, cb_le] at h; exact h⟩)⟩
            exact (cb_eq p p2).trans (congrArg PyData.bool (all_iff ⟨fun h => congrArg V.bl h, fun h => V.bl.inj h⟩))
      obtain ⟨_, hsc, heq, hlt, hle⟩ := two
      simp only [cmpL, List.mem_cons, List.not_mem_nil, or_false] at g
      rcases g with rfl | rfl | rfl
      · refine goT rfl ⟨_, rfl, _, rfl, hsc, ?_⟩
        have := q1 _ (Same.refl _)
        rw [heq] at this
        exact this
      · refine goF (by decide +kernel) ⟨_, rfl, rfl, _, rfl, goT rfl ⟨_, rfl, _, rfl, hlt _ (q1 _ (Same.refl _))⟩⟩
      · refine goF (by decide +kernel) ⟨_, rfl, rfl, _, rfl, goF (by decide +kernel) ⟨_, rfl, rfl, _, rfl, goT rfl ⟨_, rfl, _, rfl, hle _ (q1 _ (Same.refl _))⟩⟩⟩
    · exact absurd (hz (by rcases g with rfl | rfl <;> simp)) id
    · rcases val_cases hd.1 hd.2.1 with rfl | ⟨c, _⟩ | ⟨_, x, rfl, _⟩ | ⟨c, _⟩
      · cases nd
      · exact absurd c (by decide +kernel)
      · rcases val_cases he.1 he.2.1 with rfl | ⟨c, _⟩ | ⟨_, y, rfl, _⟩ | ⟨c, _⟩
        · cases ne
        · exact absurd c (by decide +kernel)
        · rw [decide_eq_true (by decide +kernel)]
          have bx : x.length ≤ 40 * 40 := hd.2.2
          have by_ : y.length ≤ 40 * 40 := he.2.2
          exact iteT ⟨_, rfl, _, rfl, .inr ⟨x, y, rfl, rfl, Nat.le_trans (Nat.add_le_add bx by_) (by decide), by have := q1 _ (Same.refl _); rw [show cnt2 "glue" (.str x) (.str y) = cntS "glue" x y from rfl, cs_glue] at this; exact this⟩⟩
        · exact absurd c (by decide +kernel)
      · exact absurd c (by decide +kernel)
    · exact absurd (hz (.inr (.inr rfl))) id
end
end Z
set_option Elab.async false
set_option linter.all false
set_option autoImplicit false
set_option maxRecDepth 100000
set_option maxHeartbeats 4000000
namespace Z
open PySem PySem.Spec PyProof.Rows L2
/-- an operation with values of kinds that it wants -/
def OpOk (z : Str) (ks : List Str) (ds : List PyData) : Prop := (∃ k, kindB z ks = some k) ∧ ((∃ a d, ks = [a] ∧ ds = [d] ∧ z ∈ onesL ∧ Ok a 40 d) ∨ (∃ a b d e, ks = [a, b] ∧ ds = [d, e] ∧ z ∈ twosL ∧ Ok a 40 d ∧ Ok b 40 e) ∨ (∃ a b c d e f, ks = [a, b, c] ∧ ds = [d, e, f] ∧ z = "if" ∧ Ok a 40 d ∧ Ok b 40 e ∧ Ok c 40 f))
def spVB (K : PySem.W.Frag) : Sp := fun vs H Q _ => ∃ (z : Str) (a : Addr) (ks : List Str) (ds : List PyData), vs = [.str z, .ref a] ∧ SqL K H a (ds.map toV) ∧ OpOk z ks ds ∧ ∀ H', Same H H' → Q (toV (valB z ds)) H'
theorem acc_map {acc : List V} {ds : List PyData} {g : PyData → V} (hl : acc.length = ds.length) (h : ∀ (i : Nat) (y : V), acc[i]? = some y → ∃ d, ds[i]? = some d ∧ y = g d) : acc = ds.map g := map_of hl h
theorem Ok.scal_bl {d : PyData} {m : Nat} {b : Bool} (h : Ok "bool" m d) : scal (toV d) (.bl b) = true := by
  rcases val_cases h.1 h.2.1 with rfl | ⟨c, _⟩ | ⟨c, _⟩ | ⟨_, p, rfl⟩
  · rfl
  · exact absurd c (by decide +kernel)
  · exact absurd c (by decide +kernel)
  · rfl
theorem no_iff {k : Str} {m : Nat} {d : PyData} (h : Ok k m d) : decide (toV d = .non) = isNo d := by
  rcases val_cases h.1 h.2.1 with rfl | ⟨c, i, rfl⟩ | ⟨c, z, rfl, _⟩ | ⟨_, p, rfl⟩ <;> rfl
section
variable {P : Program} {w : World} {K : PySem.W.Frag} {mg : Str → Option Value} {base : Heap}
theorem kn_settled (D : Def0 K mg "settled" (top 8)) (T : TxtE K w mg) (zany : mg "any" = none) : Kn P w K mg base CX0 "settled" 1 ["truths", "decisive"] [] (spSettled K) := by
  obtain ⟨f, fd, F, m⟩ := D
  have sc_ : FnScope ["truths", "decisive", "truth"] ["truths", "decisive"] (defScope (top 8)) := ⟨rfl, rfl, rfl, by decide +kernel, rfl, by decide +kernel, by decide +kernel⟩
  refine kn_of F m (F.ok sc_ (fun vs H Q E h => ?_) (fun cdv A outer s H vs Q E hr h => ?_)) (F.bindsN fun _ _ _ _ _ _ us hl => match us, hl with | [_, _], _ => rfl)
  · obtain ⟨a, ds, b, rfl, _⟩ := h; rfl
  · obtain ⟨a, ds, b, rfl, hs, hd, hn, q⟩ := h
    refine ⟨_, PSs.nox (pss_cons (ps_if (pt_val (pe_callB (k_any (K := K) rfl) (by rfl) zany (by decide +kernel) (pa_cons (pe_lc (own := [("truth", 2)]) (g := gName 2) (by rfl) sc_.nd (k_list (K := K) (pv 0)) (blkOk_by (N := ["truths", "decisive", "truth"]) (sc := defScope (top 8)) (by decide +kernel)) (fun _ _ _ _ _ => (pg_name (i := 2) sc_.nd rfl (by first | exact Or.inl rfl | exact Or.inr rfl))) (fun _ _ _ _ _ => pts_nil) (fun _ _ _ _ _ => (pe_cmpR op_eq (pv 2) (pv 1) (nomark _)))) pa_nil))) (pss_one (ps_ret (pv 1))) pss_nil)
      (pss_one (ps_ret (pe_ifExp (pt_val (pe_callB (k_any (K := K) rfl) (by rfl) zany (by decide +kernel) (pa_cons (pe_lc (own := [("truth", 2)]) (g := gName 2) (by rfl) sc_.nd (k_list (K := K) (pv 0)) (blkOk_by (N := ["truths", "decisive", "truth"]) (sc := defScope (top 8)) (by decide +kernel)) (fun _ _ _ _ _ => (pg_name (i := 2) sc_.nd rfl (by first | exact Or.inl rfl | exact Or.inr rfl))) (fun _ _ _ _ _ => pts_nil) (fun _ _ _ _ _ => (pe_cmpR op_isN (pv 2) pe_non (nomark _)))) pa_nil))) pe_non (pe_not (pv 1)))))), ?_⟩
    have hlen : (ds.map toV).length = ds.length := List.length_map _
    refine ⟨_, rfl, a, rfl, ⟨_, hs⟩, fun Dd hD => ?_⟩
    refine lc_ok (walk_list (K := K) (a := a) (xs := ds.map toV)) (fun i y _ => ∃ d, ds[i]? = some d ∧ y = .bl (isB b d)) hD (by rw [hlen]; exact Nat.lt_of_le_of_lt hn (by decide)) (fun H5 e => Same.seq e hs) (fun _ _ _ _ _ _ h => h) (fun _ _ _ _ h => by rw [h.1]; exact Same.refl _) ?_ ?_
    · rintro i x H1 H' hi s1 ⟨rfl, hx⟩ Q' k
      rw [List.getElem?_map, Option.map_eq_some_iff] at hx
      obtain ⟨d, hdi, rfl⟩ := hx
      refine ⟨rfl, _, rfl, _, rfl, (hd d (List.mem_of_getElem? hdi)).scal_bl, ?_⟩
      rw [toV_bl]
      exact k _ _ (Same.refl _) ⟨d, hdi, rfl⟩
    · intro H1 acc s1 hacc hla hra
      have ea : acc = (ds.map (isB b)).map V.bl := by
        rw [List.map_map]
        exact acc_map (by rw [hla, hlen]) hra
      refine ⟨_, ds.map (isB b), rfl, SqL.of (by rw [hacc, ea]), _, rfl, ?_⟩
      have hany : (ds.map (isB b)).any id = ds.any (isB b) := by rw [List.any_map]; rfl
      rw [hany]
      unfold settle at q
      by_cases c : ds.any (isB b) = true
      · rw [c]
        have q1 := q H1 s1
        rw [if_pos c] at q1
        exact iteT ⟨_, rfl, q1⟩
      · rw [show ds.any (isB b) = false by simpa using c]
        rw [if_neg c] at q
        have hs1 := Same.seq s1 hs
        refine iteF ⟨_, rfl, a, rfl, ⟨_, hs1⟩, fun D2 hD2 => ?_⟩
        refine lc_ok (walk_list (K := K) (a := a) (xs := ds.map toV)) (fun i y _ => ∃ d, ds[i]? = some d ∧ y = .bl (isNo d)) hD2 (by rw [hlen]; exact Nat.lt_of_le_of_lt hn (by decide)) (fun H5 e => Same.seq e hs1) (fun _ _ _ _ _ _ h => h) (fun _ _ _ _ h => by rw [h.1]; exact Same.refl _) ?_ ?_
        · rintro i x H2 H' hi s2 ⟨rfl, hx⟩ Q' k
          rw [List.getElem?_map, Option.map_eq_some_iff] at hx
          obtain ⟨d, hdi, rfl⟩ := hx
          refine ⟨rfl, _, rfl, rfl, ?_⟩
          rw [no_iff (hd d (List.mem_of_getElem? hdi))]
          exact k _ _ (Same.refl _) ⟨d, hdi, rfl⟩
        · intro H2 acc2 s2 hacc2 hla2 hra2
          have ea2 : acc2 = (ds.map isNo).map V.bl := by
            rw [List.map_map]
            exact acc_map (by rw [hla2, hlen]) hra2
          refine ⟨_, ds.map isNo, rfl, SqL.of (by rw [hacc2, ea2]), _, rfl, ?_⟩
          have hany2 : (ds.map isNo).any id = ds.any isNo := by rw [List.any_map]; rfl
          rw [hany2]
          have q2 := q H2 (s1.trans s2)
          by_cases c2 : ds.any isNo = true
          · rw [c2]
            rw [if_pos c2] at q2
            exact iteT q2
          · rw [show ds.any isNo = false by simpa using c2]
            rw [if_neg c2] at q2
            exact iteF ⟨_, rfl, b, rfl, q2⟩
theorem kn_value_behind (D : Def0 K mg "value_behind" (top 7)) (T : TxtE K w mg) (zany : mg "any" = none) (F_settled : Kn P w K mg base CX0 "settled" 1 ["truths", "decisive"] [] (spSettled K)) (F_value_of_two : Kn P w K mg base CX0 "value_of_two" 2 ["word", "one", "other"] [] spTwo) : Kn P w K mg base CX0 "value_behind" 3 ["word", "values"] [] (spVB K) := by
  obtain ⟨f, fd, F, m⟩ := D
  have sc_ : FnScope ["word", "values", "first", "value"] ["word", "values"] (defScope (top 7)) := ⟨rfl, rfl, rfl, by decide +kernel, rfl, by decide +kernel, by decide +kernel⟩
  refine kn_of F m (F.ok sc_ (fun vs H Q E h => ?_) (fun cdv A outer s H vs Q E hr h => ?_)) (F.bindsN fun _ _ _ _ _ _ us hl => match us, hl with | [_, _], _ => rfl)
  · obtain ⟨z, a, ks, ds, rfl, _⟩ := h; rfl
  · obtain ⟨z, a, ks, ds, rfl, hs, ⟨⟨k, hk⟩, hc⟩, q⟩ := h
    refine ⟨_, PSs.nox (pss_cons (ps_set (i := 2) sc_.nd rfl (by first | exact Or.inl rfl | exact Or.inr rfl) (pe_ix (k_ixL (K := K)) (pv 1) pe_int (fun _ _ => rfl)))
      (pss_cons (ps_if (pt_cmpR op_eq (pv 0) pe_str (nomark _)) (pss_one (ps_ret (pe_own F_settled hr (by first | decide | omega | (simp only [Nat.add_eq]; omega)) pass0 (pa_cons (pv 1) (pa_cons pe_bl pa_nil))))) pss_nil)
      (pss_cons (ps_if (pt_cmpR op_eq (pv 0) pe_str (nomark _)) (pss_one (ps_ret (pe_own F_settled hr (by first | decide | omega | (simp only [Nat.add_eq]; omega)) pass0 (pa_cons (pv 1) (pa_cons pe_bl pa_nil))))) pss_nil)
      (pss_cons (ps_if (pt_cmpR op_eq (pv 0) pe_str (nomark _)) (pss_one (ps_ret (pe_cmpR op_notN (pv 2) pe_non (nomark _)))) pss_nil)
      (pss_cons (ps_if (pt_cmpR op_eq (pv 0) pe_str (nomark _)) (pss_one (ps_ret (pe_ifExp (pt_cmpR op_isX (pv 2) pe_bl (nomark _)) (pe_ix (k_ixL (K := K)) (pv 1) pe_int (fun _ _ => rfl)) (pe_ix (k_ixL (K := K)) (pv 1) pe_int (fun _ _ => rfl))))) pss_nil)
      (pss_cons (ps_if (pt_cmpR op_eq (pv 0) pe_str (nomark _)) (pss_one (ps_ret (pe_ifExp (pt_cmpR op_notN (pv 2) pe_non (nomark _)) (pv 2) (pe_ix (k_ixL (K := K)) (pv 1) pe_int (fun _ _ => rfl))))) pss_nil)
      (pss_cons (ps_if (pt_val (pe_callB (k_any (K := K) rfl) (by rfl) zany (by decide +kernel) (pa_cons (pe_lc (own := [("value", 3)]) (g := gName 3) (by rfl) sc_.nd (k_list (K := K) (pv 1)) (blkOk_by (N := ["word", "values", "first", "value"]) (sc := defScope (top 7)) (by decide +kernel)) (fun _ _ _ _ _ => (pg_name (i := 3) sc_.nd rfl (by first | exact Or.inl rfl | exact Or.inr rfl))) (fun _ _ _ _ _ => pts_nil) (fun _ _ _ _ _ => (pe_cmpR op_isN (pv 3) pe_non (nomark _)))) pa_nil))) (pss_one (ps_ret pe_non)) pss_nil)
      (pss_cons (ps_if (pt_cmpR op_eq (pv 0) pe_str (nomark _)) (pss_one (ps_ret (pe_not (pv 2)))) pss_nil)
      (pss_cons (ps_if (pt_cmpR op_eq (pv 0) pe_str (nomark _)) (pss_one (ps_ret (pe_callB call_len_str (by rfl) T.z_len (by decide +kernel) (pa_cons (pv 2) pa_nil)))) pss_nil)
      (pss_one (ps_ret (pe_own F_value_of_two hr (by first | decide | omega | (simp only [Nat.add_eq]; omega)) pass0 (pa_cons (pv 0) (pa_cons (pv 2) (pa_cons (pe_ix (k_ixL (K := K)) (pv 1) pe_int (fun _ _ => rfl)) pa_nil))))))))))))))), ?_⟩
    have hall : ∀ d ∈ ds, ∃ k, Ok k 40 d := by
      intro d hd
      rcases hc with ⟨a, d1, rfl, rfl, _, h1⟩ | ⟨a, b, d1, e1, rfl, rfl, _, h1, h2⟩ | ⟨a, b, c, d1, e1, f1, rfl, rfl, _, h1, h2, h3⟩
      · simp at hd; subst hd; exact ⟨_, h1⟩
      · simp at hd; rcases hd with rfl | rfl
        · exact ⟨_, h1⟩
        · exact ⟨_, h2⟩
      · simp at hd; rcases hd with rfl | rfl | rfl
        · exact ⟨_, h1⟩
        · exact ⟨_, h2⟩
        · exact ⟨_, h3⟩
    have hlen3 : ds.length ≤ 3 := by
      rcases hc with ⟨a, d1, rfl, rfl, _⟩ | ⟨a, b, d1, e1, rfl, rfl, _⟩ | ⟨a, b, c, d1, e1, f1, rfl, rfl, _⟩ <;> simp
    obtain ⟨d0, ds', rfl⟩ : ∃ d0 ds', ds = d0 :: ds' := by
      rcases hc with ⟨a, d1, rfl, rfl, _⟩ | ⟨a, b, d1, e1, rfl, rfl, _⟩ | ⟨a, b, c, d1, e1, f1, rfl, rfl, _⟩ <;> exact ⟨_, _, rfl⟩
    have hlen : ((d0 :: ds').map toV).length = (d0 :: ds').length := List.length_map _
    refine ⟨_, rfl, a, _, _, toV d0, rfl, rfl, hs, atI_nat (j := 0) rfl, ?_⟩
    refine ⟨_, rfl, rfl, _, rfl, ?_⟩
    -- and, or
    by_cases h1 : z = "and"
    · subst h1
      refine goT rfl ⟨_, rfl, a, d0 :: ds', false, rfl, hs, fun d hd => ?_, hlen3, ?_⟩
      · rcases hc with ⟨a, d1, rfl, h, hw, _⟩ | ⟨a, b, d1, e1, rfl, h, _, g1, g2⟩ | ⟨a, b, c, d1, e1, f1, rfl, h, hw, _⟩
        · exact absurd hw (by decide +kernel)
        · rcases two_cases (by decide +kernel) hk with ⟨g, _⟩ | ⟨g, _⟩ | ⟨_, rfl, rfl, _⟩ | ⟨g, _⟩ | ⟨g, _⟩
          · exact absurd g (by decide +kernel)
          · exact absurd g (by decide +kernel)
          · rw [h] at hd
            simp at hd
            rcases hd with rfl | rfl <;> assumption
          · exact absurd g (by decide +kernel)
          · exact absurd g (by decide +kernel)
        · exact absurd hw (by decide +kernel)
      · rw [vb_and] at q; exact q
    refine goF h1 ⟨_, rfl, rfl, _, rfl, ?_⟩
    by_cases h2 : z = "or"
    · subst h2
      refine goT rfl ⟨_, rfl, a, d0 :: ds', true, rfl, hs, fun d hd => ?_, hlen3, ?_⟩
      · rcases hc with ⟨a, d1, rfl, h, hw, _⟩ | ⟨a, b, d1, e1, rfl, h, _, g1, g2⟩ | ⟨a, b, c, d1, e1, f1, rfl, h, hw, _⟩
        · exact absurd hw (by decide +kernel)
        · rcases two_cases (by decide +kernel) hk with ⟨g, _⟩ | ⟨g, _⟩ | ⟨_, rfl, rfl, _⟩ | ⟨g, _⟩ | ⟨g, _⟩
          · exact absurd g (by decide +kernel)
          · exact absurd g (by decide +kernel)
          · rw [h] at hd
            simp at hd
            rcases hd with rfl | rfl <;> assumption
          · exact absurd g (by decide +kernel)
          · exact absurd g (by decide +kernel)
        · exact absurd hw (by decide +kernel)
      · rw [vb_or] at q; exact q
    refine goF h2 ⟨_, rfl, rfl, _, rfl, ?_⟩
    obtain ⟨k0, hok0⟩ := hall d0 (List.mem_cons_self ..)
    by_cases h3 : z = "there"
    · subst h3
      refine goT rfl ⟨_, rfl, rfl, ?_⟩
      rw [no_iff hok0]
      rw [vb_there] at q
      exact q _ (Same.refl _)
    refine goF h3 ⟨_, rfl, rfl, _, rfl, ?_⟩
    by_cases h4 : z = "if"
    · subst h4
      obtain ⟨a', b', c', d, e, g, rfl, hds, _, ok1, ok2, ok3⟩ : ∃ a b c d e f, ks = [a, b, c] ∧ d0 :: ds' = [d, e, f] ∧ ("if" : Str) = "if" ∧ Ok a 40 d ∧ Ok b 40 e ∧ Ok c 40 f := by
        rcases hc with ⟨_, _, _, _, hw, _⟩ | ⟨_, _, _, _, _, _, hw, _⟩ | h
        · exact absurd hw (by decide +kernel)
        · exact absurd hw (by decide +kernel)
        · exact h
      cases hds
      rw [vb_if] at q
      refine goT rfl ⟨_, rfl, true, rfl, toV_flat d0, _, rfl, ?_⟩
      rw [toV_bl]
      have q1 : Q (toV (if isB true d0 then e else g)) H := q H (Same.refl _)
      by_cases c : isB true d0 = true
      · rw [c]
        rw [if_pos c] at q1
        exact iteT ⟨_, rfl, a, _, _, toV e, rfl, rfl, hs, atI_nat (j := 1) rfl, q1⟩
      · rw [show isB true d0 = false by simpa using c]
        rw [if_neg c] at q1
        exact iteF ⟨_, rfl, a, _, _, toV g, rfl, rfl, hs, atI_nat (j := 2) rfl, q1⟩
    refine goF h4 ⟨_, rfl, rfl, _, rfl, ?_⟩
    by_cases h5 : z = "else"
    · subst h5
      obtain ⟨a', b', d, e, rfl, hds, _, ok1, ok2⟩ : ∃ a b d e, ks = [a, b] ∧ d0 :: ds' = [d, e] ∧ ("else" : Str) ∈ twosL ∧ Ok a 40 d ∧ Ok b 40 e := by
        rcases hc with ⟨_, _, _, _, hw, _⟩ | h | ⟨_, _, _, _, _, _, _, _, hw, _⟩
        · exact absurd hw (by decide +kernel)
        · exact h
        · exact absurd hw (by decide +kernel)
      cases hds
      rw [vb_else] at q
      refine goT rfl ⟨_, rfl, rfl, _, rfl, ?_⟩
      rw [no_iff ok1]
      have q1 : Q (toV (if isNo d0 then e else d0)) H := q H (Same.refl _)
      by_cases c : isNo d0 = true
      · rw [c]
        rw [if_pos c] at q1
        exact iteF ⟨_, rfl, a, _, _, toV e, rfl, rfl, hs, atI_nat (j := 1) rfl, q1⟩
      · rw [show isNo d0 = false by simpa using c]
        rw [if_neg c] at q1
        exact iteT ⟨_, rfl, q1⟩
    refine goF h5 ⟨_, rfl, a, rfl, ⟨_, hs⟩, fun D2 hD2 => ?_⟩
    refine lc_ok (walk_list (K := K) (a := a) (xs := (d0 :: ds').map toV)) (fun i y _ => ∃ d, (d0 :: ds')[i]? = some d ∧ y = .bl (isNo d)) hD2 (by rw [hlen]; exact Nat.lt_of_le_of_lt hlen3 (by decide)) (fun H5 e => Same.seq e hs) (fun _ _ _ _ _ _ h => h) (fun _ _ _ _ h => by rw [h.1]; exact Same.refl _) ?_ ?_
    · rintro i x H2 H' hi s2 ⟨rfl, hx⟩ Q' k
      rw [List.getElem?_map, Option.map_eq_some_iff] at hx
      obtain ⟨d, hdi, rfl⟩ := hx
      refine ⟨rfl, _, rfl, rfl, ?_⟩
      obtain ⟨k9, hk9⟩ := hall d (List.mem_of_getElem? hdi)
      rw [no_iff hk9]
      exact k _ _ (Same.refl _) ⟨d, hdi, rfl⟩
    · intro H2 acc2 s2 hacc2 hla2 hra2
      have ea2 : acc2 = ((d0 :: ds').map isNo).map V.bl := by
        rw [List.map_map]
        exact acc_map (by rw [hla2, hlen]) hra2
      refine ⟨_, (d0 :: ds').map isNo, rfl, SqL.of (by rw [hacc2, ea2]), _, rfl, ?_⟩
      have hany2 : ((d0 :: ds').map isNo).any id = (d0 :: ds').any isNo := by rw [List.any_map]; rfl
      rw [hany2]
      have hs2 := Same.seq s2 hs
      by_cases c2 : (d0 :: ds').any isNo = true
      · rw [c2]
        have q2 := q H2 s2
        have : valB z (d0 :: ds') = .none := by
          by_cases h6 : z = "not"
          · subst h6; rw [vb_not, if_pos c2]
          · by_cases h7 : z = "size"
            · subst h7; rw [vb_size, if_pos c2]
            · rw [vb_two (by simp [sevenL, h1, h2, h3, h4, h5, h6, h7]), if_pos c2]
        rw [this] at q2
        exact iteT q2
      · rw [show (d0 :: ds').any isNo = false by simpa using c2]
        refine iteF ⟨_, rfl, rfl, _, rfl, ?_⟩
        by_cases h6 : z = "not"
        · subst h6
          rw [vb_not, if_neg c2] at q
          obtain ⟨a', d, rfl, hds, _, ok1⟩ : ∃ a d, ks = [a] ∧ d0 :: ds' = [d] ∧ ("not" : Str) ∈ onesL ∧ Ok a 40 d := by
            rcases hc with h | ⟨_, _, _, _, _, _, hw, _⟩ | ⟨_, _, _, _, _, _, _, _, hw, _⟩
            · exact h
            · exact absurd hw (by decide +kernel)
            · exact absurd hw (by decide +kernel)
          cases hds
          rcases one_cases (by decide +kernel) hk with ⟨c, _⟩ | ⟨_, rfl, _⟩ | ⟨c, _⟩
          · exact absurd c (by decide +kernel)
          · rcases val_cases ok1.1 ok1.2.1 with rfl | ⟨c, _⟩ | ⟨c, _⟩ | ⟨_, p, rfl⟩
            · exact absurd rfl c2
            · exact absurd c (by decide +kernel)
            · exact absurd c (by decide +kernel)
            · have q2 := q H2 s2
              refine goT rfl ⟨_, rfl, ?_⟩
              cases p <;> exact ⟨_, rfl, q2⟩
          · exact absurd c (by decide +kernel)
        refine goF h6 ⟨_, rfl, rfl, _, rfl, ?_⟩
        by_cases h7 : z = "size"
        · subst h7
          rw [vb_size, if_neg c2] at q
          obtain ⟨a', d, rfl, hds, _, ok1⟩ : ∃ a d, ks = [a] ∧ d0 :: ds' = [d] ∧ ("size" : Str) ∈ onesL ∧ Ok a 40 d := by
            rcases hc with h | ⟨_, _, _, _, _, _, hw, _⟩ | ⟨_, _, _, _, _, _, _, _, hw, _⟩
            · exact h
            · exact absurd hw (by decide +kernel)
            · exact absurd hw (by decide +kernel)
          cases hds
          rcases one_cases (by decide +kernel) hk with ⟨c, _⟩ | ⟨c, _⟩ | ⟨_, rfl, _⟩
          · exact absurd c (by decide +kernel)
          · exact absurd c (by decide +kernel)
          · rcases val_cases ok1.1 ok1.2.1 with rfl | ⟨c, _⟩ | ⟨_, y, rfl, _⟩ | ⟨c, _⟩
            · exact absurd rfl c2
            · exact absurd c (by decide +kernel)
            · have q2 := q H2 s2
              have hy : y.length ≤ 40 * 40 := ok1.2.2
              exact goT rfl ⟨_, rfl, y, rfl, Nat.le_trans hy (by decide), q2⟩
            · exact absurd c (by decide +kernel)
        refine goF h7 ?_
        rw [vb_two (by simp [sevenL, h1, h2, h3, h4, h5, h6, h7]), if_neg c2] at q
        obtain ⟨a', b', d, e, rfl, hds, hw, ok1, ok2⟩ : ∃ a b d e, ks = [a, b] ∧ d0 :: ds' = [d, e] ∧ z ∈ twosL ∧ Ok a 40 d ∧ Ok b 40 e := by
          rcases hc with ⟨_, _, _, _, hw, _⟩ | h | ⟨_, _, _, _, _, _, _, _, hw, _⟩
          · exfalso
            simp only [onesL, List.mem_cons, List.not_mem_nil, or_false] at hw
            rcases hw with h | h | h <;> contradiction
          · exact h
          · exact absurd hw h4
        cases hds
        have hn : isNo d0 = false ∧ isNo e = false := by
          cases hd : isNo d0 <;> cases he : isNo e <;> simp [hd, he] at c2 ⊢
        exact ⟨_, rfl, _, rfl, _, rfl, a, _, _, toV e, rfl, rfl, hs2, atI_nat (j := 1) rfl, z, a', b', d0, e, rfl, ⟨hw, ⟨k, hk⟩, ok1, ok2, hn.1, hn.2⟩, fun h => by rcases h with h | h | h <;> contradiction, fun H' e' => q H' (s2.trans e')⟩
end
end Z
set_option Elab.async false
set_option linter.all false
set_option autoImplicit false
set_option maxRecDepth 100000
set_option maxHeartbeats 4000000
namespace Z
open PySem PySem.Spec PyProof.Rows L2
/-- folded, within the limits -/
def G4 (e : Ex) : Prop := Good 40 8 40 e
theorem G4.canLay {e : Ex} (h : e.wf = true) : e.d.canLay0 = true := by
  induction e with
  | col n =>
    simp only [Ex.wf] at h
    have h1 := (nameS_small h).2
    simp only [Ex.d, PyData.canLay0, PyData.canLayAll0, h1, Bool.and_true, Bool.and_eq_true]
    decide +kernel
  | val k v =>
    simp only [Ex.wf, Bool.and_eq_true] at h
    have hk := (kind_ok h.1).2
    have hv : v.canLay0 = true := by
      rcases val_cases h.1 h.2.1 with rfl | ⟨_, i, rfl⟩ | ⟨_, z, rfl, hz⟩ | ⟨_, b, rfl⟩
      · rfl
      · rfl
      · simp only [PyData.canLay0, PyData.strOk]
        simp only [textS, Txt.isascii, Bool.and_eq_true] at hz
        rw [Array.all_eq_true_iff_forall_mem]
        intro c hc
        have := Array.all_eq_true_iff_forall_mem.mp hz.1 c hc
        have h2 : c < 128 := by simpa using this
        exact decide_eq_true (Nat.lt_trans h2 (by decide))
      · rfl
    simp only [Ex.d, PyData.canLay0, PyData.canLayAll0, hk, hv, Bool.and_true]
    decide +kernel
  | one w x ih =>
    simp only [Ex.wf, Bool.and_eq_true] at h
    have hw : w ∈ onesL := by simpa using h.1
    have : (onesL.all fun w => PyData.strOk w) = true := by decide +kernel
    have := List.all_eq_true.mp this w hw
    simp only [Ex.d, PyData.canLay0, PyData.canLayAll0, this, ih h.2, Bool.and_true]
  | two w x y ih1 ih2 =>
    simp only [Ex.wf, Bool.and_eq_true] at h
    have hw : w ∈ twosL := by simpa using h.1
    have : (twosL.all fun w => PyData.strOk w) = true := by decide +kernel
    have := List.all_eq_true.mp this w hw
    simp only [Ex.d, PyData.canLay0, PyData.canLayAll0, this, ih1 h.2.1, ih2 h.2.2, Bool.and_true]
  | ife x y z ih1 ih2 ih3 =>
    simp only [Ex.wf, Bool.and_eq_true] at h
    simp only [Ex.d, PyData.canLay0, PyData.canLayAll0, ih1 h.1, ih2 h.2.1, ih3 h.2.2, Bool.and_true]
    decide +kernel
theorem Good.shaped {N L M : Nat} {e : Ex} (g : Good N L M e) (hL : L ≤ 64) : SeqAt.shaped e.d = true := shaped_of (G4.canLay g.wf) (Nat.le_trans (Ex.depth e rfl g.wf) (Nat.le_trans g.levels hL))
def tt (b : Bool) : PyData := .tuple [.str "value", .str "bool", .bool b]
theorem tt_shaped (b : Bool) : SeqAt.shaped (tt b) = true := by cases b <;> decide +kernel
theorem truth_eqv {N L M : Nat} {e : Ex} (g : Good N L M e) (b : Bool) : PyData.eqv e.d (tt b) = (truthE e == some b) := by
  cases e with
  | col n => show PyData.eqvAll [.str "col", .str n] [.str "value", .str "bool", .bool b] = _; simp [PyData.eqvAll, truthE]
  | val k v =>
    have h := g.wf
    simp only [Ex.wf, Bool.and_eq_true] at h
    show PyData.eqvAll [.str "value", .str k, v] [.str "value", .str "bool", .bool b] = _
    simp only [PyData.eqvAll, PyData.eqv, Bool.and_true]
    rcases val_cases h.1 h.2.1 with rfl | ⟨rfl, i, rfl⟩ | ⟨rfl, z, rfl, _⟩ | ⟨rfl, c, rfl⟩
    · simp [PyData.eqv, truthE]
    · simp only [truthE, show (("int" : Str) == "bool") = false from by decide +kernel, Bool.false_and, Bool.and_false]; rfl
    · simp only [truthE, show (("text" : Str) == "bool") = false from by decide +kernel, Bool.false_and, Bool.and_false]; rfl
    · simp only [truthE, PyData.eqv, beq_self_eq_true, Bool.true_and]
      cases b <;> cases c <;> rfl
  | one w x => show PyData.eqvAll [.str w, x.d] [.str "value", .str "bool", .bool b] = _; simp [PyData.eqvAll, truthE]
  | two w x y =>
    show PyData.eqvAll [.str w, x.d, y.d] [.str "value", .str "bool", .bool b] = _
    have h := g.wf
    simp only [Ex.wf, Bool.and_eq_true] at h
    have hw : w ∈ twosL := by simpa using h.1
    have : (twosL.all fun w => !(w == "value")) = true := by decide +kernel
    have := List.all_eq_true.mp this w hw
    have h2 : (w == "value") = false := by simpa using this
    simp only [PyData.eqvAll, PyData.eqv, h2, Bool.false_and, truthE]; rfl
  | ife x y z => show PyData.eqvAll [.str "if", x.d, y.d, z.d] [.str "value", .str "bool", .bool b] = _; simp [PyData.eqvAll, truthE]
def spConst (K : PySem.W.Frag) : Sp := fun vs H Q _ => ∃ v e, vs = [v] ∧ Da K H v (Ex.d e) ∧ e.wf = true ∧ Q (.bl (constE e)) H
def spTruth (K : PySem.W.Frag) : Sp := fun vs H Q _ => ∃ v e b, vs = [v, .bl b] ∧ Da K H v (Ex.d e) ∧ G4 e ∧ ∀ H', Same H H' → Q (.bl (truthE e == some b)) H'
theorem word_val {e : Ex} (h : e.wf = true) : decide (V.str e.word = V.str "value") = constE e := by
  cases e with
  | col n => exact decide_eq_false (fun c => absurd (V.str.inj c) (by show ¬ ("col" : Str) = "value"; decide +kernel))
  | val k v => exact decide_eq_true rfl
  | one w x => exact decide_eq_false (fun c => (Ex.op_tab h rfl).2.2 (V.str.inj c))
  | two w x y => exact decide_eq_false (fun c => (Ex.op_tab h rfl).2.2 (V.str.inj c))
  | ife x y z => exact decide_eq_false (fun c => (Ex.op_tab h rfl).2.2 (V.str.inj c))
section
variable {P : Program} {w : World} {K : PySem.W.Frag} {mg : Str → Option Value} {base : Heap}
theorem kn_is_constant (D : Def0 K mg "is_constant" (top 13)) (T : TxtE K w mg) : Kn P w K mg base CX0 "is_constant" 1 ["part"] [] (spConst K) := by
  obtain ⟨f, fd, F, m⟩ := D
  have sc_ : FnScope ["part"] ["part"] (defScope (top 13)) := ⟨rfl, rfl, rfl, by decide +kernel, rfl, by decide +kernel, by decide +kernel⟩
  refine kn_of F m (F.ok sc_ (fun vs H Q E h => ?_) (fun cdv A outer s H vs Q E hr h => ?_)) (F.bindsN fun _ _ _ _ _ _ us hl => match us, hl with | [_], _ => rfl)
  · obtain ⟨v, e, rfl, _⟩ := h; rfl
  · obtain ⟨v, e, rfl, hd, hw, q⟩ := h
    refine ⟨_, PSs.nox (pss_one (ps_ret (pe_cmpR op_eq (pe_ix (k_ixT (K := K)) (pv 0) pe_int (fun _ _ => rfl)) pe_str (nomark _)))), ?_⟩
    obtain ⟨a, xs, rfl, hs, hx⟩ := Ex.open hd
    refine ⟨_, rfl, a, _, _, _, rfl, rfl, hs, atI_nat (j := 0) rfl, rfl, ?_⟩
    rw [word_val hw]
    exact q
theorem kn_is_truth (D : Def0 K mg "is_truth" (top 14)) (T : TxtE K w mg) : Kn P w K mg base CX0 "is_truth" 1 ["part", "truth"] [] (spTruth K) := by
  obtain ⟨f, fd, F, m⟩ := D
  have sc_ : FnScope ["part", "truth"] ["part", "truth"] (defScope (top 14)) := ⟨rfl, rfl, rfl, by decide +kernel, rfl, by decide +kernel, by decide +kernel⟩
  refine kn_of F m (F.ok sc_ (fun vs H Q E h => ?_) (fun cdv A outer s H vs Q E hr h => ?_)) (F.bindsN fun _ _ _ _ _ _ us hl => match us, hl with | [_, _], _ => rfl)
  · obtain ⟨v, e, b, rfl, _⟩ := h; rfl
  · obtain ⟨v, e, b, rfl, hd, hg, q⟩ := h
    refine ⟨_, PSs.nox (pss_one (ps_ret (pe_cmpR (k_eqD (K := K) hr.units) (pv 0) (pe_tup (pa_cons pe_str (pa_cons pe_str (pa_cons (pv 1) pa_nil)))) (nomark _)))), ?_⟩
    refine ⟨_, rfl, _, rfl, l2k 3 (by decide), fun p hp => ?_⟩
    have e1 := same_new hp (o := .tup [.str "value", .str "bool", .bl b])
    refine eqD_go (hd.mono e1) (e := tt b) (.tup (SqT.of upd_same) (.cons (.str _ (by decide +kernel)) (.cons (.str _ (by decide +kernel)) (.cons (.bl b) .nil)))) (hg.shaped (by decide)) (tt_shaped b) ?_
    rw [truth_eqv hg]
    exact q _ e1
end
end Z
set_option Elab.async false
set_option linter.all false
set_option autoImplicit false
set_option maxRecDepth 100000
set_option maxHeartbeats 4000000
namespace Z
open PySem PySem.Spec PyProof.Rows L2
def spShPair (K : PySem.W.Frag) : Sp := fun vs H Q _ => ∃ (z : Str) (u v : V) (a b : Ex), vs = [.str z, u, v] ∧ z.length ≤ 100 ∧ Da K H u (Ex.d a) ∧ Da K H v (Ex.d b) ∧ G4 a ∧ G4 b ∧ ∀ x H', Same H H' → Da K H' x (Ex.d (pairE z a b)) → Q x H'
def spShort (K : PySem.W.Frag) : Sp := fun vs H Q _ => ∃ (a : Addr) (ws : List V) (e : Ex), vs = [.str e.word, .ref a] ∧ SqL K H a ws ∧ DaL K H ws (e.parts.map Ex.d) ∧ e.isOp = true ∧ G4 e ∧ ∀ x H', Same H H' → Da K H' x (Ex.d (cutE e)) → Q x H'
theorem pairE_none {z : Str} {a b : Ex} (ha : truthE a = none) (hb : truthE b = none) : pairE z a b = .two z a b := by
  unfold pairE; rw [ha]; show (match truthE b with | some t => _ | none => _) = _; rw [hb]
theorem pairE_a {z : Str} {a b : Ex} {t : Bool} (ha : truthE a = some t) : pairE z a b = if t = decide (z = "or") then a else b := by
  unfold pairE; rw [ha]
theorem pairE_b {z : Str} {a b : Ex} {t : Bool} (ha : truthE a = none) (hb : truthE b = some t) : pairE z a b = if t = decide (z = "or") then b else a := by
  unfold pairE; rw [ha]; show (match truthE b with | some t => _ | none => _) = _; rw [hb]
theorem Good.part {N L M : Nat} {e x : Ex} (g : Good N L M e) (h : x ∈ e.parts) : Good N L M x := by
  refine ⟨Ex.wf_part g.wf h, ?_, ?_, Ex.bd_part g.bd h⟩
  · have h1 := e.nodes_parts
    have h2 : x.nodes ≤ (e.parts.map Ex.nodes).sum := by
      have : ∀ L : List Ex, x ∈ L → x.nodes ≤ (L.map Ex.nodes).sum := by
        intro L
        induction L with
        | nil => intro h; cases h
        | cons a L ih =>
          intro h
          simp only [List.map_cons, List.sum_cons]
          rcases List.mem_cons.mp h with rfl | h
          · omega
          · have := ih h; omega
      exact this _ h
    have := g.nodes
    omega
  · have := Ex.level_part h
    have := g.levels
    omega
section
variable {P : Program} {w : World} {K : PySem.W.Frag} {mg : Str → Option Value} {base : Heap}
theorem kn_shortened_pair (D : Def0 K mg "shortened_pair" (top 16)) (T : TxtE K w mg) (F_is_truth : Kn P w K mg base CX0 "is_truth" 1 ["part", "truth"] [] (spTruth K)) : Kn P w K mg base CX0 "shortened_pair" 2 ["word", "one", "other"] [] (spShPair K) := by
  obtain ⟨f, fd, F, m⟩ := D
  have sc_ : FnScope ["word", "one", "other", "decisive", "part", "rest"] ["word", "one", "other"] (defScope (top 16)) := ⟨rfl, rfl, rfl, by decide +kernel, rfl, by decide +kernel, by decide +kernel⟩
  refine kn_of F m (F.ok sc_ (fun vs H Q E h => ?_) (fun cdv A outer s H vs Q E hr h => ?_)) (F.bindsN fun _ _ _ _ _ _ us hl => match us, hl with | [_, _, _], _ => rfl)
  · obtain ⟨z, u, v, a, b, rfl, _⟩ := h; rfl
  · obtain ⟨z, u, v, a, b, rfl, hz, ha, hb, ga, gb, q⟩ := h
    refine ⟨_, PSs.nox (pss_cons (ps_set (i := 3) sc_.nd rfl (by first | exact Or.inl rfl | exact Or.inr rfl) (pe_cmpR op_eq (pv 0) pe_str (nomark _)))
      (pss_cons (ps_for PassesOwn.never rfl (k_tup (K := K) (pe_tup (pa_cons (pe_tup (pa_cons (pv 1) (pa_cons (pv 2) pa_nil))) (pa_cons (pe_tup (pa_cons (pv 2) (pa_cons (pv 1) pa_nil))) pa_nil)))) (k_pgT (K := K) (pgs_cons (pg_name (i := 4) sc_.nd rfl (by first | exact Or.inl rfl | exact Or.inr rfl)) (pgs_cons (pg_name (i := 5) sc_.nd rfl (by first | exact Or.inl rfl | exact Or.inr rfl)) pgs_nil)))
        (pss_cons (ps_if (pt_val (pe_own F_is_truth hr (by first | decide | omega | (simp only [Nat.add_eq]; omega)) pass0 (pa_cons (pv 4) (pa_cons (pe_not (pv 3)) pa_nil)))) (pss_one (ps_ret (pv 5))) pss_nil)
      (pss_one (ps_if (pt_val (pe_own F_is_truth hr (by first | decide | omega | (simp only [Nat.add_eq]; omega)) pass0 (pa_cons (pv 4) (pa_cons (pv 3) pa_nil)))) (pss_one (ps_ret (pv 4))) pss_nil))))
      (pss_one (ps_ret (pe_tup (pa_cons (pv 0) (pa_cons (pv 1) (pa_cons (pv 2) pa_nil)))))))), ?_⟩
    have fin : ∀ H1, Same H H1 → truthE a = none → truthE b = none → ∀ p H2, Same H1 H2 → H2 p = some (.tup [.str z, u, v]) → Q (.ref p) H2 := by
      intro H1 e1 h1 h2 p H2 e2 hp
      refine q _ _ (e1.trans e2) ?_
      rw [pairE_none h1 h2]
      exact .tup (SqT.of hp) (.cons (.str _ (by omega)) (.cons (ha.mono (e1.trans e2)) (.cons (hb.mono (e1.trans e2)) .nil)))
    refine ⟨_, rfl, rfl, ?_⟩
    have hdec : decide (V.str z = V.str "or") = decide (z = "or") := all_iff ⟨fun h => V.str.inj h, fun h => congrArg V.str h⟩
    rw [hdec]
    refine ⟨_, rfl, _, rfl, l2k 2 (by decide), fun p1 hp1 => ⟨_, rfl, _, rfl, l2k 2 (by decide), fun p2 hp2 => ⟨l2k 2 (by decide), fun p3 hp3 => ?_⟩⟩⟩
    have f1 := same_new hp1 (o := .tup [u, v])
    have f2 := same_new hp2 (o := .tup [v, u])
    have f3 := same_new hp3 (o := .tup [.ref p1, .ref p2])
    have s1 := f2.trans f3
    have s0 := f1.trans s1
    have g1 := same_t s1 (SqT.of (K := K) (H := upd H p1 (.tup [u, v])) (a := p1) upd_same)
    have g2 := same_t f3 (SqT.of (K := K) (H := upd (upd H p1 (.tup [u, v])) p2 (.tup [v, u])) (a := p2) upd_same)
    have g3 : SqT K _ p3 [.ref p1, .ref p2] := SqT.of (upd_same (H := upd (upd H p1 (.tup [u, v])) p2 (.tup [v, u])) (a := p3))
    generalize hH : upd (upd (upd H p1 (.tup [u, v])) p2 (.tup [v, u])) p3 (.tup [.ref p1, .ref p2]) = H0 at *
    refine ⟨p3, rfl, ⟨_, g3⟩, ?_⟩
    refine for_it (walk_tup (K := K) (a := p3) (xs := [V.ref p1, V.ref p2])) (fun i σ H' => Same H0 H' ∧ (∃ o1 o2, σ = [some (.str z), some u, some v, some (.bl (decide (z = "or"))), o1, o2]) ∧ (1 ≤ i → truthE a = none) ∧ (2 ≤ i → truthE b = none)) ⟨Same.refl _, ⟨none, none, rfl⟩, fun h => absurd h (by decide), fun h => absurd h (by decide)⟩ (fun i σ H' _ h => same_t h.1 g3) ?_ ?_
    · rintro i x σ H1 H2 hi ⟨e1, ⟨o1, o2, rfl⟩, t1, t2⟩ ⟨rfl, hx⟩
      obtain ⟨c, r, cv, rv, pc, hc, hr', gc, gr, hpc, hxe, hp, hn⟩ : ∃ (c r : Ex) (cv rv : V) (pc : Addr), Da K H cv c.d ∧ Da K H rv r.d ∧ G4 c ∧ G4 r ∧ SqT K H0 pc [cv, rv] ∧ x = .ref pc ∧ (∀ t, truthE c = some t → pairE z a b = if t = decide (z = "or") then c else r) ∧ (truthE c = none → (1 ≤ i + 1 → truthE a = none) ∧ (2 ≤ i + 1 → truthE b = none)) := by
        match i, hi, hx with
        | 0, _, hx => simp at hx; subst hx; exact ⟨a, b, u, v, p1, ha, hb, ga, gb, g1, rfl, fun t h => pairE_a h, fun h => ⟨fun _ => h, fun h2 => absurd h2 (by decide)⟩⟩
        | 1, _, hx => simp at hx; subst hx; exact ⟨b, a, v, u, p2, hb, ha, gb, ga, g2, rfl, fun t h => pairE_b (t1 (by decide)) h, fun h => ⟨fun _ => t1 (by decide), fun _ => h⟩⟩
      subst hxe
      have e01 := s0.trans e1
      refine ⟨pc, _, rfl, same_t e1 hpc, rfl, _, _, rfl, _, _, rfl, rfl, ?_⟩
      refine ⟨_, rfl, _, rfl, _, rfl, cv, c, _, rfl, hc.mono e01, gc, fun H3 e3 => ⟨_, rfl, ?_⟩⟩
      have e03 := e01.trans e3
      have fin2 : ∀ t, truthE c = some t → ∀ H', Same H H' → (t = decide (z = "or") → Q cv H') ∧ (t ≠ decide (z = "or") → Q rv H') := by
        intro t ht H' e'
        refine ⟨fun h => q _ _ e' ?_, fun h => q _ _ e' ?_⟩
        · rw [hp t ht, if_pos h]; exact hc.mono e'
        · rw [hp t ht, if_neg h]; exact hr'.mono e'
      cases ht : truthE c with
      | none =>
        refine iteF ?_
        refine ⟨_, rfl, _, rfl, cv, c, _, rfl, hc.mono e03, gc, fun H4 e4 => ⟨_, rfl, ?_⟩⟩
        rw [ht]
        refine iteF ?_
        exact ⟨e1.trans (e3.trans e4), ⟨_, _, rfl⟩, (hn ht).1, (hn ht).2⟩
      | some t =>
        by_cases hto : t = decide (z = "or")
        · rw [show (some t == some (!decide (z = "or"))) = false by rw [hto]; cases decide (z = "or") <;> rfl]
          refine iteF ?_
          refine ⟨_, rfl, _, rfl, cv, c, _, rfl, hc.mono e03, gc, fun H4 e4 => ⟨_, rfl, ?_⟩⟩
          rw [ht, show (some t == some (decide (z = "or"))) = true by rw [hto]; simp]
          exact iteT ⟨_, rfl, (fin2 t ht _ (e03.trans e4)).1 hto⟩
        · rw [show (some t == some (!decide (z = "or"))) = true by revert hto; cases decide (z = "or") <;> cases t <;> simp]
          exact iteT ⟨_, rfl, (fin2 t ht _ e03).2 hto⟩
    · rintro σ H1 ⟨e1, ⟨o1, o2, rfl⟩, t1, t2⟩
      refine ⟨_, rfl, _, rfl, _, rfl, l2k 3 (by decide), fun p hp => ?_⟩
      exact fin _ (s0.trans e1) (t1 (by simp)) (t2 (by simp)) p _ (same_new hp) upd_same
end
end Z
set_option Elab.async false
set_option linter.all false
set_option autoImplicit false
set_option maxRecDepth 100000
set_option maxHeartbeats 4000000
namespace Z
open PySem PySem.Spec PyProof.Rows L2
theorem Ex.word_len {e : Ex} (h : e.wf = true) : e.word.length ≤ 100 := by
  cases e with
  | col n => exact (by decide +kernel : ("col" : Str).length ≤ 100)
  | val k v => exact (by decide +kernel : ("value" : Str).length ≤ 100)
  | one w x =>
    simp only [Ex.wf, Bool.and_eq_true] at h
    have hw : w ∈ onesL := by simpa using h.1
    have : (onesL.all fun w => decide (w.length ≤ 100)) = true := by decide +kernel
    exact of_decide_eq_true (List.all_eq_true.mp this w hw)
  | two w x y =>
    simp only [Ex.wf, Bool.and_eq_true] at h
    have hw : w ∈ twosL := by simpa using h.1
    have : (twosL.all fun w => decide (w.length ≤ 100)) = true := by decide +kernel
    exact of_decide_eq_true (List.all_eq_true.mp this w hw)
  | ife x y z => exact (by decide +kernel : ("if" : Str).length ≤ 100)
theorem cut_not {x : Ex} : cutE (.one "not" x) = notE x := by
  show (if ("not" : Str) = "not" then notE x else .one "not" x) = notE x
  exact if_pos rfl
theorem cut_one {z : Str} {x : Ex} (h : z ≠ "not") : cutE (.one z x) = .one z x := if_neg h
theorem cut_two {z : Str} {x y : Ex} (h : ¬ (z = "and" ∨ z = "or")) : cutE (.two z x y) = if z = "else" ∧ constE x = true then (if isNo (vvE x) = true then y else x) else .two z x y := if_neg h
theorem notE_pos {x : Ex} (h : x.word = "not") : notE x = x.parts.headD x := if_pos h
theorem notE_neg {x : Ex} (h : ¬ x.word = "not") : notE x = .one "not" x := if_neg h
theorem cut_ife {x y z : Ex} (h : ¬ constE x = true) : cutE (.ife x y z) = .ife x y z := if_neg h
section
variable {P : Program} {w : World} {K : PySem.W.Frag} {mg : Str → Option Value} {base : Heap}
theorem kn_shortened (D : Def0 K mg "shortened" (top 15)) (T : TxtE K w mg) (F_is_constant : Kn P w K mg base CX0 "is_constant" 1 ["part"] [] (spConst K)) (F_is_truth : Kn P w K mg base CX0 "is_truth" 1 ["part", "truth"] [] (spTruth K)) (F_shortened_pair : Kn P w K mg base CX0 "shortened_pair" 2 ["word", "one", "other"] [] (spShPair K)) : Kn P w K mg base CX0 "shortened" 3 ["word", "parts"] [] (spShort K) := by
  obtain ⟨f, fd, F, m⟩ := D
  have sc_ : FnScope ["word", "parts", "first"] ["word", "parts"] (defScope (top 15)) := ⟨rfl, rfl, rfl, by decide +kernel, rfl, by decide +kernel, by decide +kernel⟩
  refine kn_of F m (F.ok sc_ (fun vs H Q E h => ?_) (fun cdv A outer s H vs Q E hr h => ?_)) (F.bindsN fun _ _ _ _ _ _ us hl => match us, hl with | [_, _], _ => rfl)
  · obtain ⟨a, ws, e, rfl, _⟩ := h; rfl
  · obtain ⟨a, ws, e, rfl, hs, hx, ho, hg, q⟩ := h
    refine ⟨_, PSs.nox (pss_cons (ps_set (i := 2) sc_.nd rfl (by first | exact Or.inl rfl | exact Or.inr rfl) (pe_ix (k_ixL (K := K)) (pv 1) pe_int (fun _ _ => rfl)))
      (pss_cons (ps_if (pt_cmpR (k_in (K := K)) (pv 0) (pe_tup (pa_cons pe_str (pa_cons pe_str pa_nil))) (by rfl)) (pss_one (ps_ret (pe_own F_shortened_pair hr (by first | decide | omega | (simp only [Nat.add_eq]; omega)) pass0 (pa_cons (pv 0) (pa_cons (pv 2) (pa_cons (pe_ix (k_ixL (K := K)) (pv 1) pe_int (fun _ _ => rfl)) pa_nil)))))) pss_nil)
      (pss_cons (ps_if (PW.pt (pw_and (pt_cmpR op_eq (pv 0) pe_str (nomark _)) (pw_and1 (pt_cmpR op_eq (pe_ix (k_ixT (K := K)) (pv 2) pe_int (fun _ _ => rfl)) pe_str (nomark _))))) (pss_one (ps_ret (pe_ix (k_ixT (K := K)) (pv 2) pe_int (fun _ _ => rfl)))) pss_nil)
      (pss_cons (ps_if (PW.pt (pw_and (pt_cmpR op_eq (pv 0) pe_str (nomark _)) (pw_and1 (pt_val (pe_own F_is_constant hr (by first | decide | omega | (simp only [Nat.add_eq]; omega)) pass0 (pa_cons (pv 2) pa_nil)))))) (pss_one (ps_ret (pe_ifExp (pt_val (pe_own F_is_truth hr (by first | decide | omega | (simp only [Nat.add_eq]; omega)) pass0 (pa_cons (pv 2) (pa_cons pe_bl pa_nil)))) (pe_ix (k_ixL (K := K)) (pv 1) pe_int (fun _ _ => rfl)) (pe_ix (k_ixL (K := K)) (pv 1) pe_int (fun _ _ => rfl))))) pss_nil)
      (pss_cons (ps_if (PW.pt (pw_and (pt_cmpR op_eq (pv 0) pe_str (nomark _)) (pw_and1 (pt_val (pe_own F_is_constant hr (by first | decide | omega | (simp only [Nat.add_eq]; omega)) pass0 (pa_cons (pv 2) pa_nil)))))) (pss_one (ps_ret (pe_ifExp (pt_cmpR op_notN (pe_ix (k_ixT (K := K)) (pv 2) pe_int (fun _ _ => rfl)) pe_non (nomark _)) (pv 2) (pe_ix (k_ixL (K := K)) (pv 1) pe_int (fun _ _ => rfl))))) pss_nil)
      (pss_one (ps_ret (pe_tup (pa_cons (pv 0) (k_star (K := K) (pv 1) pa_nil)))))))))), ?_⟩
    have whole : ∀ H1 p, Same H H1 → cutE e = e → H1 p = some (.tup (.str e.word :: ws)) → Q (.ref p) H1 := by
      intro H1 p e1 hc hp
      refine q _ _ e1 ?_
      rw [hc, Ex.op_d ho]
      exact .tup (SqT.of hp) (.cons (.str _ (Nat.le_trans (Ex.word_len hg.wf) (by decide))) (DaL.mono e1 hx))
    cases e with
    | col n => cases ho
    | val k v => cases ho
    | one z x =>
      obtain ⟨xv, ws1, rfl, hxv, hn⟩ := hx.consI
      cases hn.nilI
      have gx : G4 x := hg.part (List.mem_singleton.mpr rfl)
      have hz : z ∈ onesL := by
        have := hg.wf
        simp only [Ex.wf, Bool.and_eq_true] at this
        simpa using this.1
      have hzn : z ≠ "and" ∧ z ≠ "or" ∧ z ≠ "if" ∧ z ≠ "else" := by
        have : (onesL.all fun z => !(z == "and") && (!(z == "or") && (!(z == "if") && !(z == "else")))) = true := by decide +kernel
        have := List.all_eq_true.mp this z hz
        simpa using this
      obtain ⟨a2, ys, rfl, hs2, hy⟩ := Ex.open hxv
      refine ⟨_, rfl, a, _, _, _, rfl, rfl, hs, atI_nat (j := 0) rfl, ?_⟩
      refine ⟨_, rfl, l2k 2 (by decide), fun t1 ht1 => ?_⟩
      have e1 := same_new ht1 (o := .tup [.str "and", .str "or"])
      refine ⟨t1, _, rfl, .inr (SqT.of upd_same), rfl, flat_strs ["and", "or"], _, rfl, ?_⟩
      show (if inV (.str z) ((["and", "or"] : List Str).map V.str) = true then _ else _)
      rw [inV_strs, decide_eq_false (by simp [hzn.1, hzn.2.1])]
      have hs1 := Same.seq e1 hs
      have hs21 := same_t e1 hs2
      refine iteF ⟨_, rfl, rfl, _, rfl, ?_⟩
      have e1w : ∀ H1, Same (upd H t1 (.tup [.str "and", .str "or"])) H1 → Same H H1 := fun _ e => e1.trans e
      by_cases hzn1 : z = "not"
      · subst hzn1
        refine goT rfl ⟨_, rfl, a2, _, _, _, rfl, rfl, hs21, atI_nat (j := 0) rfl, rfl, _, rfl, ?_⟩
        by_cases hw2 : x.word = "not"
        · refine goT hw2 ?_
          have hcut : cutE (.one "not" x) = x.parts.headD x := by rw [cut_not, notE_pos hw2]
          have hq := fun v H' e' => q v H' e'
          rw [hcut] at hq
          cases x with
          | col n => exact absurd hw2 (by show ¬ ("col" : Str) = "not"; decide +kernel)
          | val k v => exact absurd hw2 (by show ¬ ("value" : Str) = "not"; decide +kernel)
          | ife x y z => exact absurd hw2 (by show ¬ ("if" : Str) = "not"; decide +kernel)
          | two z2 x y =>
            exfalso
            have := gx.wf
            simp only [Ex.wf, Bool.and_eq_true] at this
            have hm : z2 ∈ twosL := by simpa using this.1
            rw [show z2 = "not" from hw2] at hm
            exact absurd hm (by decide +kernel)
          | one z2 y =>
            obtain ⟨yv, ys1, rfl, hyv, hn⟩ := hy.consI
            cases hn.nilI
            exact ⟨_, rfl, a2, _, _, _, rfl, rfl, hs21, atI_nat (j := 1) rfl, hq _ _ e1 (hyv.mono e1)⟩
        · refine goF hw2 ⟨_, rfl, rfl, _, rfl, goF hzn.2.2.1 ⟨_, rfl, rfl, _, rfl, goF hzn.2.2.2 ⟨_, rfl, _, rfl, a, _, rfl, .inr hs1, l2k 2 (by decide), fun p hp => ?_⟩⟩⟩
          refine whole _ p (e1.trans (same_new hp)) ?_ upd_same
          rw [cut_not, notE_neg hw2]
      · refine goF hzn1 ⟨_, rfl, rfl, _, rfl, goF hzn.2.2.1 ⟨_, rfl, rfl, _, rfl, goF hzn.2.2.2 ⟨_, rfl, _, rfl, a, _, rfl, .inr hs1, l2k 2 (by decide), fun p hp => ?_⟩⟩⟩
        refine whole _ p (e1.trans (same_new hp)) ?_ upd_same
        exact cut_one hzn1
    | two z x y =>
      obtain ⟨xv, ws1, rfl, hxv, hn1⟩ := hx.consI
      obtain ⟨yv, ws2, rfl, hyv, hn⟩ := hn1.consI
      cases hn.nilI
      have gx : G4 x := hg.part (List.mem_cons_self ..)
      have gy : G4 y := hg.part (by show y ∈ [x, y]; simp)
      have hz : z ∈ twosL := by
        have := hg.wf
        simp only [Ex.wf, Bool.and_eq_true] at this
        simpa using this.1
      have hzn : z ≠ "not" ∧ z ≠ "if" := by
        have : (twosL.all fun z => !(z == "not") && !(z == "if")) = true := by decide +kernel
        have := List.all_eq_true.mp this z hz
        simpa using this
      refine ⟨_, rfl, a, _, _, _, rfl, rfl, hs, atI_nat (j := 0) rfl, ?_⟩
      refine ⟨_, rfl, l2k 2 (by decide), fun t1 ht1 => ?_⟩
      have e1 := same_new ht1 (o := .tup [.str "and", .str "or"])
      have hs1 := Same.seq e1 hs
      refine ⟨t1, _, rfl, .inr (SqT.of upd_same), rfl, flat_strs ["and", "or"], _, rfl, ?_⟩
      show (if inV (.str z) ((["and", "or"] : List Str).map V.str) = true then _ else _)
      rw [inV_strs]
      by_cases hao : z = "and" ∨ z = "or"
      · rw [decide_eq_true (by simpa using hao)]
        have hcut : cutE (.two z x y) = pairE z x y := if_pos hao
        rw [hcut] at q
        exact iteT ⟨_, rfl, _, rfl, _, rfl, a, _, _, _, rfl, rfl, hs1, atI_nat (j := 1) rfl, z, xv, yv, x, y, rfl, Ex.word_len hg.wf, hxv.mono e1, hyv.mono e1, gx, gy, fun r H' e' hr => q r H' (e1.trans e') hr⟩
      · rw [decide_eq_false (by simpa using hao)]
        refine iteF ⟨_, rfl, rfl, _, rfl, goF hzn.1 ⟨_, rfl, rfl, _, rfl, goF hzn.2 ⟨_, rfl, rfl, _, rfl, ?_⟩⟩⟩
        by_cases hel : z = "else"
        · subst hel
          refine goT rfl ⟨_, rfl, xv, x, rfl, hxv.mono e1, gx.wf, ⟨_, rfl, ?_⟩⟩
          by_cases hc : constE x = true
          · rw [hc]
            have hcut : cutE (.two "else" x y) = if isNo (vvE x) = true then y else x := by
              rw [cut_two hao, if_pos ⟨rfl, hc⟩]
            have hq := q
            rw [hcut] at hq
            obtain ⟨hxe, hok⟩ := const_ok gx hc
            rw [hxe] at hxv
            obtain ⟨a2, us, rfl, hs2, hu⟩ := hxv.tupI
            obtain ⟨u1, us1, rfl, hu1, hu⟩ := hu.consI
            obtain ⟨u2, us2, rfl, hu2, hu⟩ := hu.consI
            obtain ⟨u3, us3, rfl, hu3, hu⟩ := hu.consI
            cases hu.nilI
            cases da_toV hu3 (hok.flat (by decide))
            refine iteT ⟨_, rfl, a2, _, _, _, rfl, rfl, same_t e1 hs2, atI_nat (j := 2) rfl, rfl, _, rfl, ?_⟩
            rw [no_iff hok]
            by_cases hno : isNo (vvE x) = true
            · rw [hno]
              rw [if_pos hno] at hq
              exact iteF ⟨_, rfl, a, _, _, _, rfl, rfl, hs1, atI_nat (j := 1) rfl, hq _ _ e1 (hyv.mono e1)⟩
            · rw [show isNo (vvE x) = false by simpa using hno]
              rw [if_neg hno] at hq
              refine iteT ⟨_, rfl, hq _ _ e1 ?_⟩
              rw [hxe]
              exact Da.mono e1 (.tup hs2 (.cons hu1 (.cons hu2 (.cons hu3 .nil))))
          · rw [show constE x = false by simpa using hc]
            refine iteF ⟨_, rfl, _, rfl, a, _, rfl, .inr hs1, l2k 3 (by decide), fun p hp => ?_⟩
            refine whole _ p (e1.trans (same_new hp)) ?_ upd_same
            rw [cut_two hao, if_neg (fun c => hc c.2)]
        · refine goF hel ⟨_, rfl, _, rfl, a, _, rfl, .inr hs1, l2k 3 (by decide), fun p hp => ?_⟩
          refine whole _ p (e1.trans (same_new hp)) ?_ upd_same
          rw [cut_two hao, if_neg (fun c => hel c.1)]
    | ife x y z =>
      obtain ⟨xv, ws1, rfl, hxv, hn1⟩ := hx.consI
      obtain ⟨yv, ws2, rfl, hyv, hn2⟩ := hn1.consI
      obtain ⟨zv, ws3, rfl, hzv, hn⟩ := hn2.consI
      cases hn.nilI
      have gx : G4 x := hg.part (List.mem_cons_self ..)
      refine ⟨_, rfl, a, _, _, _, rfl, rfl, hs, atI_nat (j := 0) rfl, ?_⟩
      refine ⟨_, rfl, l2k 2 (by decide), fun t1 ht1 => ?_⟩
      have e1 := same_new ht1 (o := .tup [.str "and", .str "or"])
      have hs1 := Same.seq e1 hs
      refine ⟨t1, _, rfl, .inr (SqT.of upd_same), rfl, flat_strs ["and", "or"], _, rfl, ?_⟩
      show (if inV (.str "if") ((["and", "or"] : List Str).map V.str) = true then _ else _)
      rw [inV_strs, decide_eq_false (by decide +kernel)]
      refine iteF ⟨_, rfl, rfl, _, rfl, goF (by show ¬ ("if" : Str) = "not"; decide +kernel) ⟨_, rfl, rfl, _, rfl, goT rfl ⟨_, rfl, xv, x, rfl, hxv.mono e1, gx.wf, ⟨_, rfl, ?_⟩⟩⟩⟩
      by_cases hc : constE x = true
      · rw [hc]
        obtain ⟨hxe, hok⟩ := const_ok gx hc
        have htr : (truthE x == some true) = isB true (vvE x) := by
          rw [hxe]
          rcases val_cases hok.1 hok.2.1 with h | ⟨_, i, h⟩ | ⟨_, i, h, _⟩ | ⟨_, i, h⟩ <;> rw [h]
          all_goals first | rfl | (cases i <;> rfl)
        have hcut : cutE (.ife x y z) = if isB true (vvE x) = true then y else z := if_pos hc
        rw [hcut] at q
        refine iteT ⟨_, rfl, xv, x, true, rfl, hxv.mono e1, gx, fun H3 e3 => ⟨_, rfl, ?_⟩⟩
        rw [htr]
        have e13 := e1.trans e3
        by_cases hb : isB true (vvE x) = true
        · rw [hb]
          rw [if_pos hb] at q
          exact iteT ⟨_, rfl, a, _, _, _, rfl, rfl, Same.seq e3 hs1, atI_nat (j := 1) rfl, q _ _ e13 (hyv.mono e13)⟩
        · rw [show isB true (vvE x) = false by simpa using hb]
          rw [if_neg hb] at q
          exact iteF ⟨_, rfl, a, _, _, _, rfl, rfl, Same.seq e3 hs1, atI_nat (j := 2) rfl, q _ _ e13 (hzv.mono e13)⟩
      · rw [show constE x = false by simpa using hc]
        refine iteF ⟨_, rfl, rfl, _, rfl, goF (by show ¬ ("if" : Str) = "else"; decide +kernel) ⟨_, rfl, _, rfl, a, _, rfl, .inr hs1, l2k 4 (by decide), fun p hp => ?_⟩⟩
        refine whole _ p (e1.trans (same_new hp)) ?_ upd_same
        exact cut_ife hc
end
end Z
set_option Elab.async false
set_option linter.all false
set_option autoImplicit false
set_option maxRecDepth 100000
set_option maxHeartbeats 4000000
namespace Z
open PySem PySem.Spec PyProof.Rows L2
/-- what is folded: of one of the forms, within the limits, small values -/
def Src (e : Ex) : Prop := e.wf = true ∧ e.nodes ≤ 40 ∧ e.levels ≤ 8 ∧ e.bd 1
theorem Src.part {e x : Ex} (h : Src e) (hx : x ∈ e.parts) : Src x := by
  have g : Good e.nodes e.levels 1 e := ⟨h.1, Nat.le_refl _, Nat.le_refl _, h.2.2.2⟩
  have p := g.part hx
  exact ⟨p.wf, Nat.le_trans p.nodes h.2.1, Nat.le_trans p.levels h.2.2.1, p.bd⟩
theorem Src.fold {e : Ex} (h : Src e) : G4 (foldE e) := (fold_ok e h.1 h.2.2.2 (Nat.le_trans h.2.1 (by decide))).le h.2.1 h.2.2.1 h.2.1
/-- the operation over folded parts -/
def foldP : Ex → Ex
  | .one w x => .one w (foldE x)
  | .two w x y => .two w (foldE x) (foldE y)
  | .ife x y z => .ife (foldE x) (foldE y) (foldE z)
  | e => e
theorem foldP_parts (e : Ex) : (foldP e).parts = e.parts.map foldE := by cases e <;> rfl
theorem foldP_word (e : Ex) : (foldP e).word = e.word := by cases e <;> rfl
theorem foldP_op {e : Ex} (h : e.isOp = true) : (foldP e).isOp = true := by cases e <;> first | rfl | cases h
theorem fold_op {e : Ex} (h : e.isOp = true) : foldE e = opE (foldP e) := by cases e <;> first | rfl | cases h
theorem Src.foldP {e : Ex} (h : Src e) (ho : e.isOp = true) : Good 40 8 40 (foldP e) := by
  obtain ⟨hw, hn, hl, hb⟩ := h
  cases e with
  | col n => cases ho
  | val k v => cases ho
  | one z x =>
    simp only [Ex.wf, Bool.and_eq_true] at hw
    simp only [Ex.nodes] at hn
    simp only [Ex.levels] at hl
    exact (good_one (by simpa using hw.1) (fold_ok x hw.2 hb (by omega))).le hn hl (by omega)
  | two z x y =>
    simp only [Ex.wf, Bool.and_eq_true] at hw
    simp only [Ex.nodes] at hn
    simp only [Ex.levels] at hl
    exact (good_two (by simpa using hw.1) (fold_ok x hw.2.1 hb.1 (by omega)) (fold_ok y hw.2.2 hb.2 (by omega))).le hn hl (by omega)
  | ife x y z =>
    simp only [Ex.wf, Bool.and_eq_true] at hw
    simp only [Ex.nodes] at hn
    simp only [Ex.levels] at hl
    exact (good_ife (fold_ok x hw.1 hb.1 (by omega)) (fold_ok y hw.2.1 hb.2.1 (by omega)) (fold_ok z hw.2.2 hb.2.2 (by omega))).le hn hl (by omega)
/-- constant parts, as an operation of values -/
theorem opOk_of {e : Ex} {k : Str} (g : G4 e) (ho : e.isOp = true) (hc : e.parts.all constE = true) (hk : kindB e.word (e.parts.map vkE) = some k) : OpOk e.word (e.parts.map vkE) (e.parts.map vvE) := by
  refine ⟨⟨k, hk⟩, ?_⟩
  have ok : ∀ x ∈ e.parts, Ok (vkE x) 40 (vvE x) := fun x hx => (const_ok (g.part hx) (List.all_eq_true.mp hc x hx)).2
  have hw := g.wf
  cases e with
  | col n => cases ho
  | val k v => cases ho
  | one z x =>
    simp only [Ex.wf, Bool.and_eq_true] at hw
    exact .inl ⟨_, _, rfl, rfl, (by simpa using hw.1 : z ∈ onesL), ok x (by show x ∈ [x]; simp)⟩
  | two z x y =>
    simp only [Ex.wf, Bool.and_eq_true] at hw
    exact .inr (.inl ⟨_, _, _, _, rfl, rfl, (by simpa using hw.1 : z ∈ twosL), ok x (by show x ∈ [x, y]; simp), ok y (by show y ∈ [x, y]; simp)⟩)
  | ife x y z => exact .inr (.inr ⟨_, _, _, _, _, _, rfl, rfl, rfl, ok x (by show x ∈ [x, y, z]; simp), ok y (by show y ∈ [x, y, z]; simp), ok z (by show z ∈ [x, y, z]; simp)⟩)
theorem kinds_ok {e : Ex} (g : G4 e) (hc : e.parts.all constE = true) : ∀ k ∈ e.parts.map vkE, kindS k = true := by
  intro k hk
  obtain ⟨x, hx, rfl⟩ := List.mem_map.mp hk
  exact (const_ok (g.part hx) (List.all_eq_true.mp hc x hx)).2.1
theorem G4.parts1 {e : Ex} (g : G4 e) : ∀ x ∈ e.parts, Good x.nodes x.levels 40 x := fun x hx => ⟨(g.part hx).wf, Nat.le_refl _, Nat.le_refl _, (g.part hx).bd⟩
theorem opE_wf {e : Ex} (g : G4 e) (ho : e.isOp = true) : (opE e).wf = true := by
  have hw := g.wf
  cases e with
  | col n => cases ho
  | val k v => cases ho
  | one z x =>
    simp only [Ex.wf, Bool.and_eq_true] at hw
    exact (fold1_ok (by simpa using hw.1) (g.parts1 x (by show x ∈ [x]; simp)) (by decide)).wf
  | two z x y =>
    simp only [Ex.wf, Bool.and_eq_true] at hw
    exact (fold2_ok (by simpa using hw.1) (g.parts1 x (by show x ∈ [x, y]; simp)) (g.parts1 y (by show y ∈ [x, y]; simp)) (by decide) (by decide) (by decide)).wf
  | ife x y z => exact (fold3_ok (g.parts1 x (by show x ∈ [x, y, z]; simp)) (g.parts1 y (by show y ∈ [x, y, z]; simp)) (g.parts1 z (by show z ∈ [x, y, z]; simp)) (by decide)).wf
theorem list_of {K : PySem.W.Frag} {R : Nat → V → Hp → Prop} {H : Hp} {ds : List PyData} {acc : List V} (hl : acc.length = ds.length) (h : ∀ (i : Nat) (y : V), acc[i]? = some y → ∃ d, ds[i]? = some d ∧ Da K H y d) : DaL K H acc ds := by
  clear R
  induction acc generalizing ds with
  | nil =>
    cases ds with
    | nil => exact .nil
    | cons d ds => cases hl
  | cons a acc ih =>
    cases ds with
    | nil => cases hl
    | cons d ds =>
      obtain ⟨d', h1, h2⟩ := h 0 a rfl
      simp at h1; subst h1
      exact .cons h2 (ih (by simpa using hl) fun i y q => h (i + 1) y (by simpa using q))
def spFW (K : PySem.W.Frag) (n : Nat) : Sp := fun vs H Q _ => ∃ v e, vs = [v] ∧ Da K H v (Ex.d e) ∧ Src e ∧ e.levels ≤ n ∧ ∀ x H', Same H H' → Da K H' x (Ex.d (foldE e)) → Q x H'
section
variable {P : Program} {w : World} {K : PySem.W.Frag} {mg : Str → Option Value} {base : Heap}
theorem kn_folded_within (D : Def0 K mg "folded_within" (top 12)) (T : TxtE K w mg) (F_kind_behind : Kn P w K mg base CX0 "kind_behind" 1 ["word", "kinds"] [] (spKB K)) (F_value_behind : Kn P w K mg base CX0 "value_behind" 3 ["word", "values"] [] (spVB K))
    (F_is_constant : Kn P w K mg base CX0 "is_constant" 1 ["part"] [] (spConst K)) (F_shortened : Kn P w K mg base CX0 "shortened" 3 ["word", "parts"] [] (spShort K)) : ∀ n, Kn P w K mg base CX0 "folded_within" (4 + n) ["expression"] [] (spFW K n) := by
  obtain ⟨f, fd, F, m⟩ := D
  have sc_ : FnScope ["expression", "word", "parts", "kind", "part"] ["expression"] (defScope (top 12)) := ⟨rfl, rfl, rfl, by decide +kernel, rfl, by decide +kernel, by decide +kernel⟩
  intro n
  induction n with
  | zero =>
    refine kn_of F m (F.ok sc_ (fun vs H Q E h => ?_) (fun cdv A outer s H vs Q E hr h => ?_)) (F.bindsN fun _ _ _ _ _ _ us hl => match us, hl with | [_], _ => rfl)
    · obtain ⟨v, e, rfl, _⟩ := h; rfl
    · obtain ⟨v, e, rfl, _, _, hl, _⟩ := h
      have := e.levels_pos
      omega
  | succ n ih =>
    have F_folded_within := ih
    refine kn_of F m (F.ok sc_ (fun vs H Q E h => ?_) (fun cdv A outer s H vs Q E hr h => ?_)) (F.bindsN fun _ _ _ _ _ _ us hl => match us, hl with | [_], _ => rfl)
    · obtain ⟨v, e, rfl, _⟩ := h; rfl
    · obtain ⟨v, e, rfl, hd, hsrc, hl, q⟩ := h
      refine ⟨_, PSs.nox (pss_cons (ps_if (pt_cmpR (k_in (K := K)) (pe_ix (k_ixT (K := K)) (pv 0) pe_int (fun _ _ => rfl)) (pe_tup (pa_cons pe_str (pa_cons pe_str pa_nil))) (by rfl)) (pss_one (ps_ret (pv 0))) pss_nil)
      (pss_cons (ps_set (i := 1) sc_.nd rfl (by first | exact Or.inl rfl | exact Or.inr rfl) (pe_ix (k_ixT (K := K)) (pv 0) pe_int (fun _ _ => rfl)))
      (pss_cons (ps_setLc (i := 2) (own := [("part", 4)]) (g := gName 4) (by rfl) sc_.nd rfl rfl (sw_true rfl rfl rfl (by decide +kernel)) (k_tup (K := K) (pe_slice (k_slA (K := K)) (pv 0) (po_some pe_int) po_none)) (blkOk_by (N := ["expression", "word", "parts", "kind", "part"]) (sc := defScope (top 12)) (by decide +kernel)) (fun _ _ _ _ _ => (pg_name (i := 4) sc_.nd rfl (by first | exact Or.inl rfl | exact Or.inr rfl))) (fun _ _ _ _ _ => pts_nil) (fun _ _ _ _ _ => (pe_own F_folded_within hr (by first | decide | omega | (simp only [Nat.add_eq]; omega)) pass0 (pa_cons (pv 4) pa_nil))))
      (pss_cons (ps_if (pt_val (pe_callB (k_all (K := K) rfl) (by rfl) T.z_all (by decide +kernel) (pa_cons (pe_lc (own := [("part", 4)]) (g := gName 4) (by rfl) sc_.nd (k_list (K := K) (pv 2)) (blkOk_by (N := ["expression", "word", "parts", "kind", "part"]) (sc := defScope (top 12)) (by decide +kernel)) (fun _ _ _ _ _ => (pg_name (i := 4) sc_.nd rfl (by first | exact Or.inl rfl | exact Or.inr rfl))) (fun _ _ _ _ _ => pts_nil) (fun _ _ _ _ _ => (pe_own F_is_constant hr (by first | decide | omega | (simp only [Nat.add_eq]; omega)) pass0 (pa_cons (pv 4) pa_nil)))) pa_nil))) (pss_cons (ps_set (i := 3) sc_.nd rfl (by first | exact Or.inl rfl | exact Or.inr rfl) (pe_own F_kind_behind hr (by first | decide | omega | (simp only [Nat.add_eq]; omega)) pass0 (pa_cons (pv 1) (pa_cons (pe_lc (own := [("part", 4)]) (g := gName 4) (by rfl) sc_.nd (k_list (K := K) (pv 2)) (blkOk_by (N := ["expression", "word", "parts", "kind", "part"]) (sc := defScope (top 12)) (by decide +kernel)) (fun _ _ _ _ _ => (pg_name (i := 4) sc_.nd rfl (by first | exact Or.inl rfl | exact Or.inr rfl))) (fun _ _ _ _ _ => pts_nil) (fun _ _ _ _ _ => (pe_ix (k_ixT (K := K)) (pv 4) pe_int (fun _ _ => rfl)))) pa_nil))))
      (pss_one (ps_if (pt_cmpR op_notN (pv 3) pe_non (nomark _)) (pss_one (ps_ret (pe_tup (pa_cons pe_str (pa_cons (pv 3) (pa_cons (pe_own F_value_behind hr (by first | decide | omega | (simp only [Nat.add_eq]; omega)) pass0 (pa_cons (pv 1) (pa_cons (pe_lc (own := [("part", 4)]) (g := gName 4) (by rfl) sc_.nd (k_list (K := K) (pv 2)) (blkOk_by (N := ["expression", "word", "parts", "kind", "part"]) (sc := defScope (top 12)) (by decide +kernel)) (fun _ _ _ _ _ => (pg_name (i := 4) sc_.nd rfl (by first | exact Or.inl rfl | exact Or.inr rfl))) (fun _ _ _ _ _ => pts_nil) (fun _ _ _ _ _ => (pe_ix (k_ixT (K := K)) (pv 4) pe_int (fun _ _ => rfl)))) pa_nil))) pa_nil)))))) pss_nil))) pss_nil)
      (pss_one (ps_ret (pe_own F_shortened hr (by first | decide | omega | (simp only [Nat.add_eq]; omega)) pass0 (pa_cons (pv 1) (pa_cons (pv 2) pa_nil))))))))), ?_⟩
      have hda := hd
      obtain ⟨a, xs, rfl, hs, hx⟩ := Ex.open hd
      refine ⟨_, rfl, a, _, _, _, rfl, rfl, hs, atI_nat (j := 0) rfl, l2k 2 (by decide), fun t1 ht1 => ?_⟩
      have e1 := same_new ht1 (o := .tup [.str "col", .str "value"])
      refine ⟨t1, _, rfl, .inr (SqT.of upd_same), rfl, flat_strs ["col", "value"], _, rfl, ?_⟩
      show (if inV (.str e.word) ((["col", "value"] : List Str).map V.str) = true then _ else _)
      rw [inV_strs]
      by_cases ho : e.isOp = true
      · rw [decide_eq_false (fun c => by have := (op_ncv hsrc.1).mp c; rw [ho] at this; cases this)]
        have hs1 := same_t e1 hs
        refine iteF ⟨_, rfl, a, _, _, _, rfl, rfl, hs1, atI_nat (j := 0) rfl, ?_⟩
        rw [Ex.op_items ho] at hx
        refine ⟨_, rfl, 1, rfl, ?_⟩
        dsimp only [tNoPart]
        refine slA1 hs1 fun p hp => ?_
        have s0 := e1.trans (same_new hp (o := .tup xs))
        have hlx : xs.length = e.parts.length := by rw [hx.length, List.length_map]
        refine ⟨p, rfl, ⟨_, SqT.of upd_same⟩, fun Dd hD => lc_ok (walk_tup (K := K) (a := p) (xs := xs)) (fun i y H' => ∃ x0, e.parts[i]? = some x0 ∧ Da K H' y (foldE x0).d) hD (by rw [hlx]; exact Nat.lt_of_le_of_lt e.parts_le (by decide)) (fun H1 e1 => same_t e1 (SqT.of upd_same)) (fun i y H H' _ e' ⟨x0, h1, h2⟩ => ⟨x0, h1, Da.monoT e' (Ex.pure _ ((hsrc.part (List.mem_of_getElem? h1)).fold.wf)) h2⟩) (fun _ _ _ _ h => by rw [h.1]; exact Same.refl _) ?_ ?_⟩
        · rintro i x H1 H' hi s1 ⟨rfl, hxi⟩ Q' kk
          obtain ⟨d, hd1, hd2⟩ := DaL.get hx hxi
          rw [List.getElem?_map, Option.map_eq_some_iff] at hd1
          obtain ⟨x0, hx0, rfl⟩ := hd1
          have hmem := List.mem_of_getElem? hx0
          have hlev := Ex.level_part hmem
          exact ⟨rfl, _, rfl, x, x0, rfl, hd2.mono (s0.trans s1), hsrc.part hmem, by omega, fun y H2 e2 hy => kk _ _ e2 ⟨x0, hx0, hy⟩⟩
        · intro H1 acc s1 hacc hla hra
          have s01 := s0.trans s1
          have hdl : DaL K H1 acc ((foldP e).parts.map Ex.d) := by
            rw [foldP_parts, List.map_map]
            refine list_of (R := fun _ _ _ => True) (by rw [hla, hlx, List.length_map]) fun i y hy => ?_
            obtain ⟨x0, h1, h2⟩ := hra i y hy
            exact ⟨_, by rw [List.getElem?_map, h1]; rfl, h2⟩
          have g4 : G4 (foldP e) := hsrc.foldP ho
          have ho2 := foldP_op ho
          have hwd := foldP_word e
          have q1 : ∀ x H', Same H1 H' → Da K H' x (opE (foldP e)).d → Q x H' := fun x H' e' h => q x H' (s01.trans e') (by rw [fold_op ho]; exact h)
          rw [← hwd]
          generalize foldP e = e2 at hdl g4 ho2 q1 ⊢
          have hal : acc.length = e2.parts.length := by rw [hdl.length, List.length_map]
          have hpl := e2.parts_le
          have hlt : acc.length < sizeLine := by rw [hal]; exact Nat.lt_of_le_of_lt hpl (by decide)
          have short : ∀ H5, Same H1 H5 → opE e2 = cutE e2 → spShort K [.str e2.word, .ref Dd] H5 Q (fun _ _ _ => False) := fun H5 e5 hc =>
            ⟨Dd, acc, e2, rfl, SqL.of (e5 _ _ hacc), DaL.mono e5 hdl, ho2, g4, fun x H' e' hx' => q1 x H' (e5.trans e') (by rw [hc]; exact hx')⟩
          refine ⟨_, rfl, Dd, rfl, ⟨_, SqL.of hacc⟩, fun D2 hD2 => lc_ok (walk_list (K := K) (a := Dd) (xs := acc)) (fun i y _ => ∃ x0, e2.parts[i]? = some x0 ∧ y = .bl (constE x0)) hD2 hlt (fun H5 e => Same.seq e (SqL.of hacc)) (fun _ _ _ _ _ _ h => h) (fun _ _ _ _ h => by rw [h.1]; exact Same.refl _) ?_ ?_⟩
          · rintro i x H2 H' hi s2 ⟨rfl, hxi⟩ Q' kk
            obtain ⟨d, hd1, hd2⟩ := DaL.get hdl hxi
            rw [List.getElem?_map, Option.map_eq_some_iff] at hd1
            obtain ⟨x0, hx0, rfl⟩ := hd1
            exact ⟨rfl, _, rfl, x, x0, rfl, hd2.mono s2, (g4.part (List.mem_of_getElem? hx0)).wf, kk _ _ (Same.refl _) ⟨x0, hx0, rfl⟩⟩
          · intro H2 acc2 s2 hacc2 hla2 hra2
            have ea : acc2 = (e2.parts.map constE).map V.bl := by
              rw [List.map_map]
              exact map_of (by rw [hla2, hal]) hra2
            refine ⟨_, e2.parts.map constE, rfl, SqL.of (by rw [hacc2, ea]), _, rfl, ?_⟩
            rw [show (e2.parts.map constE).all id = e2.parts.all constE by rw [List.all_map]; rfl]
            by_cases hc : e2.parts.all constE = true
            · rw [hc]
              have cx : ∀ {x0 : Ex} {i : Nat}, e2.parts[i]? = some x0 → x0 = .val (vkE x0) (vvE x0) ∧ Ok (vkE x0) 40 (vvE x0) := fun h => const_ok (g4.part (List.mem_of_getElem? h)) (List.all_eq_true.mp hc _ (List.mem_of_getElem? h))
              have hacc20 := s2 _ _ hacc
              refine iteT ⟨_, rfl, _, rfl, Dd, rfl, ⟨_, SqL.of hacc20⟩, fun D3 hD3 => lc_ok (walk_list (K := K) (a := Dd) (xs := acc)) (fun i y _ => ∃ x0, e2.parts[i]? = some x0 ∧ y = .str (vkE x0)) hD3 hlt (fun H5 e => Same.seq e (SqL.of hacc20)) (fun _ _ _ _ _ _ h => h) (fun _ _ _ _ h => by rw [h.1]; exact Same.refl _) ?_ ?_⟩
              · rintro i x H3 H' hi s3 ⟨rfl, hxi⟩ Q' kk
                obtain ⟨d, hd1, hd2⟩ := DaL.get hdl hxi
                rw [List.getElem?_map, Option.map_eq_some_iff] at hd1
                obtain ⟨x0, hx0, rfl⟩ := hd1
                rw [(cx hx0).1] at hd2
                obtain ⟨a3, us, rfl, hs3, hu⟩ := hd2.tupI
                obtain ⟨u1, us1, rfl, hu1, hu⟩ := hu.consI
                obtain ⟨u2, us2, rfl, hu2, hu⟩ := hu.consI
                cases hu2.strI
                exact ⟨rfl, _, rfl, a3, _, _, _, rfl, rfl, same_t (s2.trans s3) hs3, atI_nat (j := 1) rfl, kk _ _ (Same.refl _) ⟨x0, hx0, rfl⟩⟩
              · intro H3 acc3 s3 hacc3 hla3 hra3
                have ea3 : acc3 = (e2.parts.map vkE).map V.str := by
                  rw [List.map_map]
                  exact map_of (by rw [hla3, hal]) hra3
                have hne : e2.parts.map vkE ≠ [] := by cases e2 <;> first | (cases ho2; done) | (intro c; cases c)
                refine ⟨e2.word, D3, e2.parts.map vkE, rfl, SqL.of (by rw [hacc3, ea3]), hne, by rw [List.length_map]; exact hpl, kinds_ok g4 hc, (Ex.op_tab g4.wf ho2).1, fun H4 e4 => ?_⟩
                have s24 := s2.trans (s3.trans e4)
                refine ⟨_, rfl, rfl, _, rfl, ?_⟩
                cases hk : kindB e2.word (e2.parts.map vkE) with
                | none =>
                  refine iteF ?_
                  refine ⟨_, rfl, _, rfl, short H4 s24 ?_⟩
                  unfold opE; rw [if_pos hc, hk]
                | some k =>
                  have hop : opE e2 = .val k (valB e2.word (e2.parts.map vvE)) := by unfold opE; rw [if_pos hc, hk]
                  rw [hop] at q1
                  have hacc24 := s24 _ _ hacc
                  refine iteT ⟨_, rfl, _, rfl, _, rfl, Dd, rfl, ⟨_, SqL.of hacc24⟩, fun D4 hD4 => lc_ok (walk_list (K := K) (a := Dd) (xs := acc)) (fun i y _ => ∃ x0, e2.parts[i]? = some x0 ∧ y = toV (vvE x0)) hD4 hlt (fun H5 e => Same.seq e (SqL.of hacc24)) (fun _ _ _ _ _ _ h => h) (fun _ _ _ _ h => by rw [h.1]; exact Same.refl _) ?_ ?_⟩
                  · rintro i x H5 H' hi s5 ⟨rfl, hxi⟩ Q' kk
                    obtain ⟨d, hd1, hd2⟩ := DaL.get hdl hxi
                    rw [List.getElem?_map, Option.map_eq_some_iff] at hd1
                    obtain ⟨x0, hx0, rfl⟩ := hd1
                    rw [(cx hx0).1] at hd2
                    obtain ⟨a3, us, rfl, hs3, hu⟩ := hd2.tupI
                    obtain ⟨u1, us1, rfl, hu1, hu⟩ := hu.consI
                    obtain ⟨u2, us2, rfl, hu2, hu⟩ := hu.consI
                    obtain ⟨u3, us3, rfl, hu3, hu⟩ := hu.consI
                    cases da_toV hu3 ((cx hx0).2.flat (by decide))
                    exact ⟨rfl, _, rfl, a3, _, _, _, rfl, rfl, same_t (s24.trans s5) hs3, atI_nat (j := 2) rfl, kk _ _ (Same.refl _) ⟨x0, hx0, rfl⟩⟩
                  · intro H5 acc5 s5 hacc5 hla5 hra5
                    have ea5 : acc5 = (e2.parts.map vvE).map toV := by
                      rw [List.map_map]
                      exact map_of (by rw [hla5, hal]) hra5
                    have hop2 := opOk_of g4 ho2 hc hk
                    refine ⟨e2.word, D4, e2.parts.map vkE, e2.parts.map vvE, rfl, SqL.of (by rw [hacc5, ea5]), hop2, fun H6 e6 => ⟨l2k 3 (by decide), fun p3 hp3 => ?_⟩⟩
                    have s26 := (s24.trans s5).trans (e6.trans (same_new hp3 (o := .tup [.str "value", .str k, toV (valB e2.word (e2.parts.map vvE))])))
                    have gw : (Ex.val k (valB e2.word (e2.parts.map vvE))).wf = true := by
                      have hw9 := (hsrc.fold).wf
                      rw [← hop]
                      exact opE_wf g4 ho2
                    simp only [Ex.wf, Bool.and_eq_true] at gw
                    exact q1 _ _ s26 (.tup (SqT.of upd_same) (.cons (.str _ (by decide +kernel)) (.cons (.str _ (kind_ok gw.1).1) (.cons (flat_da gw.2.2) .nil))))
            · rw [show e2.parts.all constE = false by simpa using hc]
              refine iteF ⟨_, rfl, _, rfl, short H2 s2 ?_⟩
              unfold opE; rw [if_neg hc]
      · have hof : e.isOp = false := by simpa using ho
        rw [decide_eq_true ((op_ncv hsrc.1).mpr hof)]
        refine iteT ⟨_, rfl, q _ _ e1 ?_⟩
        rw [show foldE e = e by cases e <;> first | rfl | cases hof]
        exact hda.mono e1
def gI {α : Type} : List α → List α → List α
  | [], [a] => [a]
  | _, _ => []
def spFolded (K : PySem.W.Frag) : Sp := fun vs H Q _ => ∃ v e, vs = [v] ∧ Da K H v (Ex.d e) ∧ Src e ∧ ∀ x H', Same H H' → Da K H' x (Ex.d (foldE e)) → Q x H'
theorem ok_folded {f : Addr} {fd : FuncData} (F : FnP K "folded" (top 50) f fd) (T : TxtE K w mg) (F_check_expression : Kn P w K mg base CX0 "check_expression" 6 ["expression"] [] (spFaultE K)) (F_folded_within : Kn P w K mg base CX0 "folded_within" 12 ["expression"] [] (spFW K 8)) : FnOk P w K mg base CX0 13 f fd ["expression"] (spFolded K) := by
  have sc_ : FnScope ["expression"] ["expression"] (defScope (top 50)) := ⟨rfl, rfl, rfl, by decide +kernel, rfl, by decide +kernel, by decide +kernel⟩
  refine F.ok sc_ (fun vs H Q E h => ?_) (fun cdv A outer s H vs Q E hr h => ?_)
  · obtain ⟨v, e, rfl, _⟩ := h; rfl
  · obtain ⟨v, e, rfl, hd, hs, q⟩ := h
    refine ⟨_, PSs.nox (pss_cons (ps_expr (pe_own F_check_expression hr (by first | decide | omega | (simp only [Nat.add_eq]; omega)) pass0 (pa_cons (pv 0) pa_nil)))
      (pss_one (ps_ret (pe_own F_folded_within hr (by first | decide | omega | (simp only [Nat.add_eq]; omega)) pass0 (pa_cons (pv 0) pa_nil))))), ?_⟩
    exact ⟨_, rfl, v, e, rfl, hd, hs.1, hs.2.1, hs.2.2.1, fun H1 e1 => ⟨_, rfl, v, e, rfl, hd.mono e1, hs, hs.2.2.1, fun x H2 e2 hx => q x H2 (e1.trans e2) hx⟩⟩
theorem knk_folded {f : Addr} {fd : FuncData} (F : FnP K "folded" (top 50) f fd) (m : mg "folded" = some (.ref f)) (ok : FnOk P w K mg base CX0 13 f fd ["expression"] (spFolded K)) :
    Kn P w K mg base CX0 "folded" 13 ["expression"] [] (spFolded K) ∧ KnK P w K mg base CX0 "folded" 13 ["expression"] ["expression"] gI (spFolded K) := by
  refine ⟨kn_of F m ok (F.bindsN fun _ _ _ _ _ _ us hl => match us, hl with | [_], _ => rfl), f, fd, gI, ok, m, F.kp, ?_, ?_⟩
  · intro s us ws _ hl
    obtain ⟨oc, od, dV, kV, doc, pm, an, cdv, ct, osl, rfl, lk, hcd, hD, hK⟩ := F.ex
    match us, ws, hl with
    | [], [a], _ =>
      rcases hD with ⟨_, rfl⟩ | ⟨e, _⟩
      · exact .of_eq rfl
      · exact absurd rfl e
  · intro vs us zs ws h1 h2
    cases h1 with
    | nil =>
      cases h2 with
      | nil => exact .nil
      | cons a h3 =>
        cases h3 with
        | nil => exact .cons a .nil
        | cons _ _ => exact .nil
    | cons _ _ => exact .nil
end
end Z
set_option Elab.async false
set_option linter.all false
set_option autoImplicit false
set_option maxRecDepth 100000
set_option maxHeartbeats 4000000
namespace Z
open PySem PySem.Spec PyProof.Rows L2
theorem ci_div (i j : Int) : cntI "div" i j = if j = 0 then .none else .int (i.fdiv j) := by
  unfold cntI
  rw [if_neg (by decide +kernel : ¬ ("div" : Str) = "add"), if_neg (by decide +kernel : ¬ ("div" : Str) = "sub"), if_neg (by decide +kernel : ¬ ("div" : Str) = "mul"), if_neg (by decide +kernel : ¬ ("div" : Str) = "eq"), if_neg (by decide +kernel : ¬ ("div" : Str) = "lt"), if_neg (by decide +kernel : ¬ ("div" : Str) = "le"), if_pos (rfl : ("div" : Str) = "div")]
theorem ci_mod (i j : Int) : cntI "mod" i j = if j = 0 then .none else .int (i.fmod j) := by
  unfold cntI
  rw [if_neg (by decide +kernel : ¬ ("mod" : Str) = "add"), if_neg (by decide +kernel : ¬ ("mod" : Str) = "sub"), if_neg (by decide +kernel : ¬ ("mod" : Str) = "mul"), if_neg (by decide +kernel : ¬ ("mod" : Str) = "eq"), if_neg (by decide +kernel : ¬ ("mod" : Str) = "lt"), if_neg (by decide +kernel : ¬ ("mod" : Str) = "le"), if_neg (by decide +kernel : ¬ ("mod" : Str) = "div")]
theorem two_cmp {z a b : Str} {d e : PyData} {H1 : Hp} (hd : Ok a 40 d) (he : Ok a 40 e) (nd : isNo d = false) (ne : isNo e = false) : scal (toV d) (toV e) = true ∧ (cnt2 "eq" d e = .bool (decide (toV d = toV e))) ∧ (∀ Q2 : VK, Q2 (toV (cnt2 "lt" d e)) H1 → rLtA (toV d) (toV e) H1 Q2) ∧ (∀ Q2 : VK, Q2 (toV (cnt2 "le" d e)) H1 → rLeA (toV d) (toV e) H1 Q2) := by
  rcases val_cases hd.1 hd.2.1 with rfl | ⟨c1, i, rfl⟩ | ⟨c1, x, rfl, _⟩ | ⟨c1, p, rfl⟩
  · cases nd
  · rcases val_cases he.1 he.2.1 with rfl | ⟨_, j, rfl⟩ | ⟨c, _⟩ | ⟨c, _⟩
    · cases ne
    · refine ⟨rfl, ?_, fun Q2 h => .inl ⟨i, j, rfl, rfl, by rw [show cnt2 "lt" (.int i) (.int j) = cntI "lt" i j from rfl, ci_lt] at h; exact h⟩, fun Q2 h => .inl ⟨i, j, rfl, rfl, by rw [show cnt2 "le" (.int i) (.int j) = cntI "le" i j from rfl, ci_le] at h; exact h⟩⟩
      exact (ci_eq i j).trans (congrArg PyData.bool (all_iff ⟨fun h => congrArg V.int h, fun h => V.int.inj h⟩))
    · rw [c1] at c; exact absurd c (by decide +kernel)
    · rw [c1] at c; exact absurd c (by decide +kernel)
  · rcases val_cases he.1 he.2.1 with rfl | ⟨c, _⟩ | ⟨_, y, rfl, _⟩ | ⟨c, _⟩
    · cases ne
    · rw [c1] at c; exact absurd c (by decide +kernel)
    · refine ⟨rfl, ?_, fun Q2 h => .inr (.inl ⟨x, y, rfl, rfl, by rw [show cnt2 "lt" (.str x) (.str y) = cntS "lt" x y from rfl, cs_lt] at h; exact h⟩), fun Q2 h => .inr (.inl ⟨x, y, rfl, rfl, by rw [show cnt2 "le" (.str x) (.str y) = cntS "le" x y from rfl, cs_le] at h; exact h⟩)⟩
      exact (cs_eq x y).trans (congrArg PyData.bool (all_iff ⟨fun h => congrArg V.str h, fun h => V.str.inj h⟩))
    · rw [c1] at c; exact absurd c (by decide +kernel)
  · rcases val_cases he.1 he.2.1 with rfl | ⟨c, _⟩ | ⟨c, _⟩ | ⟨_, p2, rfl⟩
    · cases ne
    · rw [c1] at c; exact absurd c (by decide +kernel)
    · rw [c1] at c; exact absurd c (by decide +kernel)
    · refine ⟨rfl, ?_, fun Q2 h => .inr (.inr ⟨p, p2, rfl, rfl, by rw [show cnt2 "lt" (.bool p) (.bool p2) = cntB "lt" p p2 from rfl, cb_lt] at h; exact h⟩), fun Q2 h => .inr (.inr ⟨p, p2, rfl, rfl, by rw [show cnt2 "le" (.bool p) (.bool p2) = cntB "le" p p2 from rfl, cb_le] at h; exact h⟩)⟩
      exact (cb_eq p p2).trans (congrArg PyData.bool (all_iff ⟨fun h => congrArg V.bl h, fun h => V.bl.inj h⟩))
section
variable {P : Program} {w : World} {K : PySem.W.Frag} {mg : Str → Option Value} {base : Heap}
theorem kn__law_counted (D : Def0 K mg "_law_counted" (top 62)) (T : TxtE K w mg) : Kn P w K mg base CX0 "_law_counted" 1 ["word", "x", "y"] [] spTwo := by
  obtain ⟨f, fd, F, m⟩ := D
  have sc_ : FnScope ["word", "x", "y"] ["word", "x", "y"] (defScope (top 62)) := ⟨rfl, rfl, rfl, by decide +kernel, rfl, by decide +kernel, by decide +kernel⟩
  refine kn_of F m (F.ok sc_ (fun vs H Q E h => ?_) (fun cdv A outer s H vs Q E hr h => ?_)) (F.bindsN fun _ _ _ _ _ _ us hl => match us, hl with | [_, _, _], _ => rfl)
  · obtain ⟨z, a, b, d, e, rfl, _⟩ := h; rfl
  · obtain ⟨z, a, b, d, e, rfl, ⟨hw, ⟨k, hk⟩, hd, he, nd, ne⟩, hz, q⟩ := h
    refine ⟨_, PSs.nox (pss_cons (ps_if (pt_cmpR (k_in (K := K)) (pv 0) (pe_lst (pa_cons pe_str (pa_cons pe_str pa_nil))) (by rfl)) (pss_one (ps_ret (pe_op op_addA (pv 1) (pv 2)))) pss_nil)
      (pss_cons (ps_if (pt_cmpR (k_in (K := K)) (pv 0) (pe_lst (pa_cons pe_str (pa_cons pe_str pa_nil))) (by rfl)) (pss_one (ps_ret (pe_ifExp (pt_cmpR op_eq (pv 0) pe_str (nomark _)) (pe_op op_sub (pv 1) (pv 2)) (pe_op op_mulW (pv 1) (pv 2))))) pss_nil)
      (pss_cons (ps_if (pt_cmpR (k_in (K := K)) (pv 0) (pe_lst (pa_cons pe_str (pa_cons pe_str pa_nil))) (by rfl)) (pss_one (ps_ret (pe_ifExp (pt_cmpR op_eq (pv 2) pe_int (nomark _)) pe_non (pe_ifExp (pt_cmpR op_eq (pv 0) pe_str (nomark _)) (pe_op op_fdivX (pv 1) (pv 2)) (pe_op op_modN (pv 1) (pv 2)))))) pss_nil)
      (pss_one (ps_ret (pe_ifExp (pt_cmpR op_eq (pv 0) pe_str (nomark _)) (pe_cmpR op_eq (pv 1) (pv 2) (nomark _)) (pe_ifExp (pt_cmpR op_eq (pv 0) pe_str (nomark _)) (pe_cmpR op_ltA (pv 1) (pv 2) (nomark _)) (pe_cmpR op_leA (pv 1) (pv 2) (nomark _))))))))), ?_⟩
    refine ⟨_, rfl, l2k 2 (by decide), fun t1 ht1 => ?_⟩
    have f1 := same_new ht1 (o := .lst [.str "add", .str "glue"])
    refine ⟨t1, _, rfl, .inl (SqL.of upd_same), rfl, flat_strs ["add", "glue"], _, rfl, ?_⟩
    show (if inV (.str z) ((["add", "glue"] : List Str).map V.str) = true then _ else _)
    rw [inV_strs]
    by_cases hA : z = "add" ∨ z = "glue"
    · rw [decide_eq_true (by simpa using hA)]
      rcases hA with rfl | rfl
      · rcases two_cases hw hk with ⟨_, rfl, rfl, _⟩ | ⟨g, _⟩ | ⟨g, _⟩ | ⟨g, _⟩ | ⟨g, _⟩
        · rcases val_cases hd.1 hd.2.1 with rfl | ⟨_, i, rfl⟩ | ⟨c, _⟩ | ⟨c, _⟩
          · cases nd
          · rcases val_cases he.1 he.2.1 with rfl | ⟨_, j, rfl⟩ | ⟨c, _⟩ | ⟨c, _⟩
            · cases ne
            · have := q _ f1
              rw [show cnt2 "add" (.int i) (.int j) = cntI "add" i j from rfl, ci_add] at this
              exact iteT ⟨_, rfl, _, rfl, .inl ⟨i, j, rfl, rfl, this⟩⟩
            · exact absurd c (by decide +kernel)
            · exact absurd c (by decide +kernel)
          · exact absurd c (by decide +kernel)
          · exact absurd c (by decide +kernel)
        · exact absurd g (by decide +kernel)
        · exact absurd g (by decide +kernel)
        · exact absurd g (by decide +kernel)
        · exact absurd g (by decide +kernel)
      · rcases two_cases hw hk with ⟨g, _⟩ | ⟨g, _⟩ | ⟨g, _⟩ | ⟨_, rfl, rfl, _⟩ | ⟨g, _⟩
        · exact absurd g (by decide +kernel)
        · exact absurd g (by decide +kernel)
        · exact absurd g (by decide +kernel)
        · rcases val_cases hd.1 hd.2.1 with rfl | ⟨c, _⟩ | ⟨_, x, rfl, _⟩ | ⟨c, _⟩
          · cases nd
          · exact absurd c (by decide +kernel)
          · rcases val_cases he.1 he.2.1 with rfl | ⟨c, _⟩ | ⟨_, y, rfl, _⟩ | ⟨c, _⟩
            · cases ne
            · exact absurd c (by decide +kernel)
            · have bx : x.length ≤ 40 * 40 := hd.2.2
              have by_ : y.length ≤ 40 * 40 := he.2.2
              have := q _ f1
              rw [show cnt2 "glue" (.str x) (.str y) = cntS "glue" x y from rfl, cs_glue] at this
              exact iteT ⟨_, rfl, _, rfl, .inr ⟨x, y, rfl, rfl, Nat.le_trans (Nat.add_le_add bx by_) (by decide), this⟩⟩
            · exact absurd c (by decide +kernel)
          · exact absurd c (by decide +kernel)
        · exact absurd g (by decide +kernel)
    rw [decide_eq_false (by simpa using hA)]
    refine iteF ⟨_, rfl, l2k 2 (by decide), fun t2 ht2 => ?_⟩
    have f2 := same_new ht2 (o := .lst [.str "sub", .str "mul"])
    refine ⟨t2, _, rfl, .inl (SqL.of upd_same), rfl, flat_strs ["sub", "mul"], _, rfl, ?_⟩
    show (if inV (.str z) ((["sub", "mul"] : List Str).map V.str) = true then _ else _)
    rw [inV_strs]
    have f12 := f1.trans f2
    have hI : z ∈ arithL → ∃ i j, d = .int i ∧ e = .int j ∧ i.natAbs < 2 ^ (44 * 40) ∧ j.natAbs < 2 ^ (44 * 40) := by
      intro hm
      rcases two_cases hw hk with ⟨_, rfl, rfl, _⟩ | ⟨g, _⟩ | ⟨g, _⟩ | ⟨g, _⟩ | ⟨g, _⟩
      · rcases val_cases hd.1 hd.2.1 with rfl | ⟨_, i, rfl⟩ | ⟨c, _⟩ | ⟨c, _⟩
        · cases nd
        · rcases val_cases he.1 he.2.1 with rfl | ⟨_, j, rfl⟩ | ⟨c, _⟩ | ⟨c, _⟩
          · cases ne
          · exact ⟨i, j, rfl, rfl, hd.2.2, he.2.2⟩
          · exact absurd c (by decide +kernel)
          · exact absurd c (by decide +kernel)
        · exact absurd c (by decide +kernel)
        · exact absurd c (by decide +kernel)
      · exfalso
        have : (cmpL.all fun z => !arithL.contains z) = true := by decide +kernel
        have := List.all_eq_true.mp this z g
        simp [hm] at this
      · exact absurd (hz (by rcases g with h | h <;> simp [h])) id
      · exact absurd (.inr g) hA
      · exact absurd (hz (.inr (.inr g))) id
    by_cases hB : z = "sub" ∨ z = "mul"
    · rw [decide_eq_true (by simpa using hB)]
      obtain ⟨i, j, rfl, rfl, bi, bj⟩ := hI (by rcases hB with h | h <;> simp [h, arithL])
      refine iteT ⟨_, rfl, rfl, _, rfl, ?_⟩
      rcases hB with rfl | rfl
      · have := q _ f12
        rw [show cnt2 "sub" (.int i) (.int j) = cntI "sub" i j from rfl, ci_sub] at this
        exact goT rfl ⟨_, rfl, _, rfl, i, j, rfl, rfl, this⟩
      · have := q _ f12
        rw [show cnt2 "mul" (.int i) (.int j) = cntI "mul" i j from rfl, ci_mul] at this
        exact goF (by decide +kernel) ⟨_, rfl, _, rfl, i, j, rfl, rfl, wide_mul bi bj (by decide) (by decide) (by decide), this⟩
    rw [decide_eq_false (by simpa using hB)]
    refine iteF ⟨_, rfl, l2k 2 (by decide), fun t3 ht3 => ?_⟩
    have f3 := same_new ht3 (o := .lst [.str "div", .str "mod"])
    refine ⟨t3, _, rfl, .inl (SqL.of upd_same), rfl, flat_strs ["div", "mod"], _, rfl, ?_⟩
    show (if inV (.str z) ((["div", "mod"] : List Str).map V.str) = true then _ else _)
    rw [inV_strs]
    have f13 := f12.trans f3
    by_cases hC : z = "div" ∨ z = "mod"
    · rw [decide_eq_true (by simpa using hC)]
      obtain ⟨i, j, rfl, rfl, bi, bj⟩ := hI (by rcases hC with h | h <;> simp [h, arithL])
      refine iteT ⟨_, rfl, rfl, _, rfl, ?_⟩
      have q3 : Q (toV (cntI z i j)) _ := q _ f13
      by_cases h0 : j = 0
      · rw [show decide (toV (.int j) = V.int 0) = true from decide_eq_true (congrArg V.int h0)]
        refine iteT ?_
        rcases hC with rfl | rfl
        · rw [ci_div, if_pos h0] at q3; exact q3
        · rw [ci_mod, if_pos h0] at q3; exact q3
      · rw [show decide (toV (.int j) = V.int 0) = false from decide_eq_false (fun c => h0 (V.int.inj c))]
        have hl := PySem.Flt.log2_lt_of (by decide) bj
        refine iteF ⟨_, rfl, rfl, _, rfl, ?_⟩
        rcases hC with rfl | rfl
        · rw [ci_div, if_neg h0] at q3
          exact goT rfl ⟨_, rfl, _, rfl, i, j, rfl, rfl, ⟨h0, by omega⟩, q3⟩
        · rw [ci_mod, if_neg h0] at q3
          exact goF (by decide +kernel) ⟨_, rfl, _, rfl, i, j, rfl, rfl, h0, q3⟩
    rw [decide_eq_false (by simpa using hC)]
    have hcmp : z ∈ cmpL ∧ a = b := by
      rcases two_cases hw hk with ⟨g, _⟩ | ⟨g, h, _⟩ | ⟨g, _⟩ | ⟨g, _⟩ | ⟨g, _⟩
      · exfalso
        simp only [arithL, List.mem_cons, List.not_mem_nil, or_false] at g
        rcases g with h | h | h | h | h
        · exact hA (.inl h)
        · exact hB (.inl h)
        · exact hB (.inr h)
        · exact hC (.inl h)
        · exact hC (.inr h)
      · exact ⟨g, h⟩
      · exact absurd (hz (by rcases g with h | h <;> simp [h])) id
      · exact absurd (.inr g) hA
      · exact absurd (hz (.inr (.inr g))) id
    obtain ⟨g, rfl⟩ := hcmp
    have q4 := q _ f13
    obtain ⟨hsc, heq, hlt, hle⟩ := two_cmp (z := z) (b := a) (H1 := upd (upd (upd H t1 (.lst [.str "add", .str "glue"])) t2 (.lst [.str "sub", .str "mul"])) t3 (.lst [.str "div", .str "mod"])) hd he nd ne
    refine iteF ⟨_, rfl, rfl, _, rfl, ?_⟩
    simp only [cmpL, List.mem_cons, List.not_mem_nil, or_false] at g
    rcases g with rfl | rfl | rfl
    · rw [heq] at q4
      exact goT rfl ⟨_, rfl, _, rfl, hsc, q4⟩
    · exact goF (by decide +kernel) ⟨_, rfl, rfl, _, rfl, goT rfl ⟨_, rfl, _, rfl, hlt _ q4⟩⟩
    · exact goF (by decide +kernel) ⟨_, rfl, rfl, _, rfl, goF (by decide +kernel) ⟨_, rfl, _, rfl, hle _ q4⟩⟩
end
end Z
set_option Elab.async false
set_option linter.all false
set_option autoImplicit false
set_option maxRecDepth 100000
set_option maxHeartbeats 4000000
namespace Z
open PySem PySem.Spec PyProof.Rows L2
def spWant (K : PySem.W.Frag) : Sp := fun vs H Q _ => ∃ (z : Str) (a : Addr) (ks : List Str), vs = [.str z, .ref a] ∧ H a = some (.lst (ks.map V.str)) ∧ (∀ k ∈ ks, kindS k = true) ∧ ((∃ a, ks = [a] ∧ z ∈ onesL) ∨ (∃ a b, ks = [a, b] ∧ z ∈ twosL) ∨ (∃ a b c, ks = [a, b, c] ∧ z = "if")) ∧ ∀ H', Same H H' → Q (optV (kindT z ks)) H'
theorem rep_bool (ks : List Str) : (List.replicate (((ks.length : Nat) : Int)).toNat [V.str "bool"]).flatten = (List.replicate ks.length ("bool" : Str)).map V.str := by
  rw [Int.toNat_natCast, List.map_replicate]
  induction ks.length with
  | zero => rfl
  | succ n ih => simp [List.replicate_succ, ih]
section
variable {P : Program} {w : World} {K : PySem.W.Frag} {mg : Str → Option Value} {base : Heap}
theorem kn__law_wanted (D : Def0 K mg "_law_wanted" (top 66)) (T : TxtE K w mg) : Kn P w K mg base CX0 "_law_wanted" 1 ["word", "kinds"] [] (spWant K) := by
  obtain ⟨f, fd, F, m⟩ := D
  have sc_ : FnScope ["word", "kinds"] ["word", "kinds"] (defScope (top 66)) := ⟨rfl, rfl, rfl, by decide +kernel, rfl, by decide +kernel, by decide +kernel⟩
  refine kn_of F m (F.ok sc_ (fun vs H Q E h => ?_) (fun cdv A outer s H vs Q E hr h => ?_)) (F.bindsN fun _ _ _ _ _ _ us hl => match us, hl with | [_, _], _ => rfl)
  · obtain ⟨z, a, ks, rfl, _⟩ := h; rfl
  · obtain ⟨z, a, ks, rfl, hs, hks, har, q⟩ := h
    refine ⟨_, PSs.nox (pss_cons (ps_if (pt_cmpR (k_in (K := K)) (pv 0) (pe_lst (pa_cons pe_str (pa_cons pe_str (pa_cons pe_str (pa_cons pe_str (pa_cons pe_str pa_nil)))))) (by rfl)) (pss_one (ps_ret (pe_ifExp (pt_cmpR (k_eqD (K := K) hr.units) (pv 1) (pe_lst (pa_cons pe_str (pa_cons pe_str pa_nil))) (nomark _)) pe_str pe_non))) pss_nil)
      (pss_cons (ps_if (pt_cmpR (k_in (K := K)) (pv 0) (pe_lst (pa_cons pe_str (pa_cons pe_str (pa_cons pe_str pa_nil)))) (by rfl)) (pss_one (ps_ret (pe_ifExp (pt_cmpR op_eq (pe_ix (k_ixL (K := K)) (pv 1) pe_int (fun _ _ => rfl)) (pe_ix (k_ixL (K := K)) (pv 1) pe_int (fun _ _ => rfl)) (nomark _)) pe_str pe_non))) pss_nil)
      (pss_cons (ps_if (pt_cmpR (k_in (K := K)) (pv 0) (pe_lst (pa_cons pe_str (pa_cons pe_str (pa_cons pe_str pa_nil)))) (by rfl)) (pss_one (ps_ret (pe_ifExp (pt_cmpR (k_eqD (K := K) hr.units) (pv 1) (pe_op op_rep (pe_lst (pa_cons pe_str pa_nil)) (pe_callB (k_len (K := K)) (by rfl) T.z_len (by decide +kernel) (pa_cons (pv 1) pa_nil))) (nomark _)) pe_str pe_non))) pss_nil)
      (pss_cons (ps_if (pt_cmpR op_eq (pv 0) pe_str (nomark _)) (pss_one (ps_ret (pe_ifExp (PW.pt (pw_and (pt_cmpR op_eq (pe_ix (k_ixL (K := K)) (pv 1) pe_int (fun _ _ => rfl)) pe_str (nomark _)) (pw_and1 (pt_cmpR op_eq (pe_ix (k_ixL (K := K)) (pv 1) pe_int (fun _ _ => rfl)) (pe_ix (k_ixL (K := K)) (pv 1) pe_int (fun _ _ => rfl)) (nomark _))))) (pe_ix (k_ixL (K := K)) (pv 1) pe_int (fun _ _ => rfl)) pe_non))) pss_nil)
      (pss_cons (ps_if (pt_cmpR op_eq (pv 0) pe_str (nomark _)) (pss_one (ps_ret (pe_ifExp (pt_cmpR op_eq (pe_ix (k_ixL (K := K)) (pv 1) pe_int (fun _ _ => rfl)) (pe_ix (k_ixL (K := K)) (pv 1) pe_int (fun _ _ => rfl)) (nomark _)) (pe_ix (k_ixL (K := K)) (pv 1) pe_int (fun _ _ => rfl)) pe_non))) pss_nil)
      (pss_cons (ps_if (pt_cmpR op_eq (pv 0) pe_str (nomark _)) (pss_one (ps_ret pe_str)) pss_nil)
      (pss_cons (ps_if (pt_cmpR op_eq (pv 0) pe_str (nomark _)) (pss_one (ps_ret (pe_ifExp (pt_cmpR (k_eqD (K := K) hr.units) (pv 1) (pe_lst (pa_cons pe_str (pa_cons pe_str pa_nil))) (nomark _)) pe_str pe_non))) pss_nil)
      (pss_one (ps_ret (pe_ifExp (pt_cmpR (k_eqD (K := K) hr.units) (pv 1) (pe_lst (pa_cons pe_str pa_nil)) (nomark _)) pe_str pe_non)))))))))), ?_⟩
    have hstr : ∀ H', Same H H' → Da K H' (.ref a) (.list (ks.map PyData.str)) := fun H' e' => .lst (SqL.of (e' _ _ hs)) (da_strs fun z h => (kind_ok (hks z h)).1)
    have shk : SeqAt.shaped (.list (ks.map PyData.str)) = true := shaped_strs fun z h => (kind_ok (hks z h)).2
    have hlen3 : 1 ≤ ks.length ∧ ks.length ≤ 3 := by
      rcases har with ⟨a, rfl, _⟩ | ⟨a, b, rfl, _⟩ | ⟨a, b, c, rfl, _⟩ <;> simp
    have two : z ∈ twosL → ∃ a b, ks = [a, b] := by
      intro hz
      rcases har with ⟨a, rfl, h⟩ | ⟨a, b, rfl, _⟩ | ⟨a, b, c, rfl, h⟩
      · have : (onesL.all fun z => !twosL.contains z) = true := by decide +kernel
        have := List.all_eq_true.mp this z h
        simp [hz] at this
      · exact ⟨a, b, rfl⟩
      · subst h; exact absurd hz (by decide +kernel)
    -- kinds == [..], told by a list of words
    have lst2 : ∀ (H1 : Hp) (l : List Str) (Q2 : VK) (l1 : Addr), Same H H1 → (∀ z ∈ l, kindS z = true) → H1 l1 = some (.lst (l.map V.str)) → Q2 (.bl (decide (ks = l))) H1 → rEqD K (.ref a) (.ref l1) H1 Q2 := by
      intro H1 l Q2 l1 e1 hl h1 hq
      refine eqD_go (hstr _ e1) (e := .list (l.map PyData.str)) (.lst (SqL.of h1) (da_strs fun z h => (kind_ok (hl z h)).1)) shk (shaped_strs fun z h => (kind_ok (hl z h)).2) ?_
      rw [eqv_strs]; exact hq
    refine ⟨_, rfl, l2k 5 (by decide), fun t1 ht1 => ?_⟩
    have f1 := same_new ht1 (o := .lst [.str "add", .str "sub", .str "mul", .str "div", .str "mod"])
    refine ⟨t1, _, rfl, .inl (SqL.of upd_same), rfl, flat_strs ["add", "sub", "mul", "div", "mod"], _, rfl, ?_⟩
    show (if inV (.str z) ((["add", "sub", "mul", "div", "mod"] : List Str).map V.str) = true then _ else _)
    rw [inV_strs]
    change (if decide (z ∈ arithL) = true then _ else _)
    by_cases hA : z ∈ arithL
    · rw [decide_eq_true hA]
      rw [kT_ar hA] at q
      refine iteT ⟨_, rfl, l2k 2 (by decide), fun l1 hl1 => ?_⟩
      have s1 := same_new hl1 (o := .lst [.str "int", .str "int"])
      refine lst2 _ ["int", "int"] _ l1 (f1.trans s1) (by decide +kernel) upd_same ⟨_, rfl, ?_⟩
      have q1 := q _ (f1.trans s1)
      by_cases c : ks = (["int", "int"] : List Str)
      · rw [decide_eq_true c]
        rw [if_pos c] at q1
        exact iteT q1
      · rw [decide_eq_false c]
        rw [if_neg c] at q1
        exact iteF q1
    rw [decide_eq_false hA]
    refine iteF ⟨_, rfl, l2k 3 (by decide), fun t2 ht2 => ?_⟩
    have f2 := same_new ht2 (o := .lst [.str "eq", .str "lt", .str "le"])
    refine ⟨t2, _, rfl, .inl (SqL.of upd_same), rfl, flat_strs ["eq", "lt", "le"], _, rfl, ?_⟩
    show (if inV (.str z) ((["eq", "lt", "le"] : List Str).map V.str) = true then _ else _)
    rw [inV_strs]
    change (if decide (z ∈ cmpL) = true then _ else _)
    have f12 := f1.trans f2
    have hix : ∀ {i : Nat} {k : Str}, ks[i]? = some k → atI (ks.map V.str) (i : Int) = some (.str k) := fun h => atI_nat (by rw [List.getElem?_map, h]; rfl)
    by_cases hB : z ∈ cmpL
    · rw [decide_eq_true hB]
      rw [kT_cm hA hB] at q
      obtain ⟨k1, k2, rfl⟩ := two (by
        have : (cmpL.all fun z => twosL.contains z) = true := by decide +kernel
        simpa using List.all_eq_true.mp this z hB)
      have hs2 := SqL.of (K := K) (f12 _ _ hs)
      refine iteT ⟨_, rfl, a, _, _, _, rfl, rfl, hs2, hix (i := 0) rfl, _, rfl, a, _, _, _, rfl, rfl, hs2, hix (i := 1) rfl, rfl, _, rfl, ?_⟩
      have q1 := q _ f12
      by_cases c : k1 = k2
      · rw [if_pos (show ([k1, k2] : List Str).getD 0 "" = ([k1, k2] : List Str).getD 1 "" from c)] at q1
        exact goT c q1
      · rw [if_neg (show ¬ ([k1, k2] : List Str).getD 0 "" = ([k1, k2] : List Str).getD 1 "" from c)] at q1
        exact goF c q1
    rw [decide_eq_false hB]
    refine iteF ⟨_, rfl, l2k 3 (by decide), fun t3 ht3 => ?_⟩
    have f3 := same_new ht3 (o := .lst [.str "and", .str "or", .str "not"])
    refine ⟨t3, _, rfl, .inl (SqL.of upd_same), rfl, flat_strs ["and", "or", "not"], _, rfl, ?_⟩
    show (if inV (.str z) ((["and", "or", "not"] : List Str).map V.str) = true then _ else _)
    rw [inV_strs]
    change (if decide (z ∈ logL) = true then _ else _)
    have f13 := f12.trans f3
    by_cases hC : z ∈ logL
    · rw [decide_eq_true hC]
      rw [kT_lo hA hB hC] at q
      have hs3 := SqL.of (K := K) (f13 _ _ hs)
      refine iteT ⟨_, rfl, l2k 1 (by decide), fun l1 hl1 => ?_⟩
      have s1 := same_new hl1 (o := .lst [.str "bool"])
      have hs4 := Same.seq s1 hs3
      have hkl : (ks.map V.str).length = ks.length := List.length_map _
      refine ⟨_, rfl, a, _, rfl, .inl hs4, l1, _, _, rfl, rfl, upd_same, by omega, by omega, ?_, fun p hp => ?_⟩
      · rw [hkl, Int.toNat_natCast]
        exact Nat.le_trans (Nat.mul_le_mul_left 1 hlen3.2) (by decide)
      have s2 := same_new hp (o := .lst (List.replicate (((ks.map V.str).length : Nat) : Int).toNat [V.str "bool"]).flatten)
      refine lst2 _ (List.replicate ks.length "bool") _ p (f13.trans (s1.trans s2)) (fun z hz => by rw [List.eq_of_mem_replicate hz]; decide +kernel) ?_ ⟨_, rfl, ?_⟩
      · rw [← rep_bool, ← hkl]; exact upd_same
      have q1 := q _ (f13.trans (s1.trans s2))
      by_cases c : ks = List.replicate ks.length ("bool" : Str)
      · rw [decide_eq_true c]
        rw [if_pos c] at q1
        exact iteT q1
      · rw [decide_eq_false c]
        rw [if_neg c] at q1
        exact iteF q1
    rw [decide_eq_false hC]
    have hs3 := SqL.of (K := K) (f13 _ _ hs)
    have q1 := q _ f13
    refine iteF ⟨_, rfl, rfl, _, rfl, ?_⟩
    by_cases h1 : z = "if"
    · subst h1
      obtain ⟨k1, k2, k3, rfl⟩ : ∃ a b c, ks = [a, b, c] := by
        rcases har with ⟨a, rfl, h⟩ | ⟨a, b, rfl, h⟩ | ⟨a, b, c, rfl, h⟩
        · exact absurd h (by decide +kernel)
        · exact absurd h (by decide +kernel)
        · exact ⟨a, b, c, rfl⟩
      rw [kT_if] at q1
      refine goT rfl ⟨_, rfl, a, _, _, _, rfl, rfl, hs3, hix (i := 0) rfl, rfl, _, rfl, ?_⟩
      by_cases c1 : k1 = "bool"
      · refine goT c1 ⟨_, rfl, a, _, _, _, rfl, rfl, hs3, hix (i := 1) rfl, _, rfl, a, _, _, _, rfl, rfl, hs3, hix (i := 2) rfl, rfl, _, rfl, ?_⟩
        by_cases c2 : k2 = k3
        · rw [if_pos (show ([k1, k2, k3] : List Str).getD 0 "" = "bool" ∧ ([k1, k2, k3] : List Str).getD 1 "" = ([k1, k2, k3] : List Str).getD 2 "" from ⟨c1, c2⟩)] at q1
          exact goT c2 ⟨_, rfl, a, _, _, _, rfl, rfl, hs3, hix (i := 1) rfl, q1⟩
        · rw [if_neg (fun h : ([k1, k2, k3] : List Str).getD 0 "" = "bool" ∧ ([k1, k2, k3] : List Str).getD 1 "" = ([k1, k2, k3] : List Str).getD 2 "" => c2 h.2)] at q1
          exact goF c2 q1
      · rw [if_neg (fun h : ([k1, k2, k3] : List Str).getD 0 "" = "bool" ∧ ([k1, k2, k3] : List Str).getD 1 "" = ([k1, k2, k3] : List Str).getD 2 "" => c1 h.1)] at q1
        exact goF c1 q1
    refine goF h1 ⟨_, rfl, rfl, _, rfl, ?_⟩
    by_cases h2 : z = "else"
    · subst h2
      obtain ⟨k1, k2, rfl⟩ := two (by decide +kernel)
      rw [kT_else] at q1
      refine goT rfl ⟨_, rfl, a, _, _, _, rfl, rfl, hs3, hix (i := 0) rfl, _, rfl, a, _, _, _, rfl, rfl, hs3, hix (i := 1) rfl, rfl, _, rfl, ?_⟩
      by_cases c : k1 = k2
      · rw [if_pos (show ([k1, k2] : List Str).getD 0 "" = ([k1, k2] : List Str).getD 1 "" from c)] at q1
        exact goT c ⟨_, rfl, a, _, _, _, rfl, rfl, hs3, hix (i := 0) rfl, q1⟩
      · rw [if_neg (show ¬ ([k1, k2] : List Str).getD 0 "" = ([k1, k2] : List Str).getD 1 "" from c)] at q1
        exact goF c q1
    refine goF h2 ⟨_, rfl, rfl, _, rfl, ?_⟩
    by_cases h3 : z = "there"
    · subst h3
      rw [kT_there] at q1
      exact goT rfl q1
    refine goF h3 ⟨_, rfl, rfl, _, rfl, ?_⟩
    by_cases h4 : z = "glue"
    · subst h4
      rw [kT_glue] at q
      refine goT rfl ⟨_, rfl, l2k 2 (by decide), fun l1 hl1 => ?_⟩
      have s1 := same_new hl1 (o := .lst [.str "text", .str "text"])
      refine lst2 _ ["text", "text"] _ l1 (f13.trans s1) (by decide +kernel) upd_same ⟨_, rfl, ?_⟩
      have q1 := q _ (f13.trans s1)
      by_cases c : ks = (["text", "text"] : List Str)
      · rw [decide_eq_true c]
        rw [if_pos c] at q1
        exact iteT q1
      · rw [decide_eq_false c]
        rw [if_neg c] at q1
        exact iteF q1
    have h5 : z = "size" := by
      rcases har with ⟨a, rfl, h⟩ | ⟨a, b, rfl, h⟩ | ⟨a, b, c, rfl, h⟩
      · simp only [onesL, List.mem_cons, List.not_mem_nil, or_false] at h
        rcases h with h | h | h
        · exact h
        · exact absurd (by rw [h]; decide +kernel) hC
        · exact absurd h h3
      · exfalso
        have := two (by exact h)
        simp only [twosL, List.mem_cons, List.not_mem_nil, or_false] at h
        rcases h with h | h | h | h | h | h | h | h | h | h | h | h
        · exact hA (by rw [h]; decide +kernel)
        · exact hA (by rw [h]; decide +kernel)
        · exact hA (by rw [h]; decide +kernel)
        · exact hA (by rw [h]; decide +kernel)
        · exact hA (by rw [h]; decide +kernel)
        · exact h4 h
        · exact hB (by rw [h]; decide +kernel)
        · exact hB (by rw [h]; decide +kernel)
        · exact hB (by rw [h]; decide +kernel)
        · exact hC (by rw [h]; decide +kernel)
        · exact hC (by rw [h]; decide +kernel)
        · exact h2 h
      · exact absurd h h1
    subst h5
    rw [kT_size] at q
    refine goF h4 ⟨_, rfl, l2k 1 (by decide), fun l1 hl1 => ?_⟩
    have s1 := same_new hl1 (o := .lst [.str "text"])
    refine lst2 _ ["text"] _ l1 (f13.trans s1) (by decide +kernel) upd_same ⟨_, rfl, ?_⟩
    have q1 := q _ (f13.trans s1)
    by_cases c : ks = (["text"] : List Str)
    · rw [decide_eq_true c]
      rw [if_pos c] at q1
      exact iteT q1
    · rw [decide_eq_false c]
      rw [if_neg c] at q1
      exact iteF q1
end
end Z
set_option Elab.async false
set_option linter.all false
set_option autoImplicit false
set_option maxRecDepth 100000
set_option maxHeartbeats 4000000
namespace Z
open PySem PySem.Spec PyProof.Rows L2
def spLV0 (K : PySem.W.Frag) : Sp := fun vs H Q _ => ∃ (v p l : V) (k : Str) (d : PyData), vs = [v, p, l] ∧ Da K H v (Ex.d (.val k d)) ∧ flatD d = true ∧ Q (toV d) H
def spLV1 (K : PySem.W.Frag) : Sp := fun vs H Q _ => ∃ (v p l : V) (e : Ex), vs = [v, p, l] ∧ Da K H v (Ex.d e) ∧ G4 e ∧ e.isOp = true ∧ e.parts.all constE = true ∧ (∃ k, kindB e.word (e.parts.map vkE) = some k) ∧ ∀ H', Same H H' → Q (toV (valB e.word (e.parts.map vvE))) H'
theorem inV_no {ds : List PyData} (h : ∀ d ∈ ds, ∃ k, Ok k 40 d) : inV .non (ds.map toV) = ds.any isNo := by
  induction ds with
  | nil => rfl
  | cons d ds ih =>
    simp only [inV, List.map_cons, List.any_cons] at ih ⊢
    rw [ih fun x hx => h x (List.mem_cons_of_mem _ hx)]
    obtain ⟨k, hk⟩ := h d (List.mem_cons_self ..)
    rcases val_cases hk.1 hk.2.1 with rfl | ⟨_, i, rfl⟩ | ⟨_, i, rfl, _⟩ | ⟨_, i, rfl⟩ <;> rfl
theorem inV_bl {ds : List PyData} {b : Bool} (h : ∀ d ∈ ds, Ok "bool" 40 d) : inV (.bl b) (ds.map toV) = ds.any (isB b) := by
  induction ds with
  | nil => rfl
  | cons d ds ih =>
    simp only [inV, List.map_cons, List.any_cons] at ih ⊢
    rw [ih fun x hx => h x (List.mem_cons_of_mem _ hx)]
    have hk := h d (List.mem_cons_self ..)
    rcases val_cases hk.1 hk.2.1 with rfl | ⟨c, _⟩ | ⟨c, _⟩ | ⟨_, i, rfl⟩
    · rfl
    · exact absurd c (by decide +kernel)
    · exact absurd c (by decide +kernel)
    · rfl
theorem flat_toV (ds : List PyData) : (ds.map toV).all flatV = true := by
  rw [List.all_eq_true]
  intro x hx
  obtain ⟨d, _, rfl⟩ := List.mem_map.mp hx
  exact toV_flat d
section
variable {P : Program} {w : World} {K : PySem.W.Frag} {mg : Str → Option Value} {base : Heap}
theorem kn__law_value0 (D : Def0 K mg "_law_value" (top 63)) (T : TxtE K w mg) (F__law_counted : Kn P w K mg base CX0 "_law_counted" 1 ["word", "x", "y"] [] spTwo) (F__law_value : Kn P w K mg base CX0 "_law_value" 1 ["tree", "places", "line_here"] [] (fun _ _ _ _ => False)) : Kn P w K mg base CX0 "_law_value" 2 ["tree", "places", "line_here"] [] (spLV0 K) := by
  obtain ⟨f, fd, F, m⟩ := D
  have sc_ : FnScope ["tree", "places", "line_here", "word", "some", "strong", "part"] ["tree", "places", "line_here"] (defScope (top 63)) := ⟨rfl, rfl, rfl, by decide +kernel, rfl, by decide +kernel, by decide +kernel⟩
  refine kn_of F m (F.ok sc_ (fun vs H Q E h => ?_) (fun cdv A outer s H vs Q E hr h => ?_)) (F.bindsN fun _ _ _ _ _ _ us hl => match us, hl with | [_, _, _], _ => rfl)
  · obtain ⟨v, p, l, k, d, rfl, _⟩ := h; rfl
  · obtain ⟨v, p, l, k, d, rfl, hd, hf, q⟩ := h
    refine ⟨_, PSs.nox (pss_cons (ps_set (i := 3) sc_.nd rfl (by first | exact Or.inl rfl | exact Or.inr rfl) (pe_ix (k_ixT (K := K)) (pv 0) pe_int (fun _ _ => rfl)))
      (pss_cons (ps_if (pt_cmpR op_eq (pv 3) pe_str (nomark _)) (pss_one (ps_ret (pe_ix (k_ix (K := K)) (pv 2) (pe_ix (k_ix (K := K)) (pv 1) (pe_ix (k_ixT (K := K)) (pv 0) pe_int (fun _ _ => rfl)) (fun _ _ => rfl)) (fun _ _ => rfl)))) pss_nil)
      (pss_cons (ps_if (pt_cmpR op_eq (pv 3) pe_str (nomark _)) (pss_one (ps_ret (pe_ix (k_ixT (K := K)) (pv 0) pe_int (fun _ _ => rfl)))) pss_nil)
      (pss_cons (ps_setLc (i := 4) (own := [("part", 6)]) (g := gName 6) (by rfl) sc_.nd rfl rfl (sw_true rfl rfl rfl (by decide +kernel)) (k_tup (K := K) (pe_slice (k_slA (K := K)) (pv 0) (po_some pe_int) po_none)) (blkOk_by (N := ["tree", "places", "line_here", "word", "some", "strong", "part"]) (sc := defScope (top 63)) (by decide +kernel)) (fun _ _ _ _ _ => (pg_name (i := 6) sc_.nd rfl (by first | exact Or.inl rfl | exact Or.inr rfl))) (fun _ _ _ _ _ => pts_nil) (fun _ _ _ _ _ => (pe_own F__law_value hr (by first | decide | omega | (simp only [Nat.add_eq]; omega)) pass0 (pa_cons (pv 6) (pa_cons (pv 1) (pa_cons (pv 2) pa_nil))))))
      (pss_cons (ps_if (pt_cmpR (k_in (K := K)) (pv 3) (pe_lst (pa_cons pe_str (pa_cons pe_str pa_nil))) (by rfl)) (pss_cons (ps_set (i := 5) sc_.nd rfl (by first | exact Or.inl rfl | exact Or.inr rfl) (pe_cmpR op_eq (pv 3) pe_str (nomark _)))
      (pss_one (ps_ret (pe_ifExp (pt_cmpR (k_in (K := K)) (pv 5) (pv 4) (by rfl)) (pv 5) (pe_ifExp (pt_cmpR (k_in (K := K)) pe_non (pv 4) (by rfl)) pe_non (pe_not (pv 5))))))) pss_nil)
      (pss_cons (ps_if (pt_cmpR op_eq (pv 3) pe_str (nomark _)) (pss_one (ps_ret (pe_cmpR op_notN (pe_ix (k_ixL (K := K)) (pv 4) pe_int (fun _ _ => rfl)) pe_non (nomark _)))) pss_nil)
      (pss_cons (ps_if (pt_cmpR op_eq (pv 3) pe_str (nomark _)) (pss_one (ps_ret (pe_ifExp (pt_cmpR op_isX (pe_ix (k_ixL (K := K)) (pv 4) pe_int (fun _ _ => rfl)) pe_bl (nomark _)) (pe_ix (k_ixL (K := K)) (pv 4) pe_int (fun _ _ => rfl)) (pe_ix (k_ixL (K := K)) (pv 4) pe_int (fun _ _ => rfl))))) pss_nil)
      (pss_cons (ps_if (pt_cmpR op_eq (pv 3) pe_str (nomark _)) (pss_one (ps_ret (pe_ifExp (pt_cmpR op_isN (pe_ix (k_ixL (K := K)) (pv 4) pe_int (fun _ _ => rfl)) pe_non (nomark _)) (pe_ix (k_ixL (K := K)) (pv 4) pe_int (fun _ _ => rfl)) (pe_ix (k_ixL (K := K)) (pv 4) pe_int (fun _ _ => rfl))))) pss_nil)
      (pss_cons (ps_if (pt_cmpR (k_in (K := K)) pe_non (pv 4) (by rfl)) (pss_one (ps_ret pe_non)) pss_nil)
      (pss_cons (ps_if (pt_cmpR op_eq (pv 3) pe_str (nomark _)) (pss_one (ps_ret (pe_not (pe_ix (k_ixL (K := K)) (pv 4) pe_int (fun _ _ => rfl))))) pss_nil)
      (pss_one (ps_ret (pe_ifExp (pt_cmpR op_eq (pv 3) pe_str (nomark _)) (pe_callB call_len_str (by rfl) T.z_len (by decide +kernel) (pa_cons (pe_ix (k_ixL (K := K)) (pv 4) pe_int (fun _ _ => rfl)) pa_nil)) (pe_own F__law_counted hr (by first | decide | omega | (simp only [Nat.add_eq]; omega)) pass0 (pa_cons (pv 3) (pa_cons (pe_ix (k_ixL (K := K)) (pv 4) pe_int (fun _ _ => rfl)) (pa_cons (pe_ix (k_ixL (K := K)) (pv 4) pe_int (fun _ _ => rfl)) pa_nil))))))))))))))))), ?_⟩
    obtain ⟨a, xs, rfl, hs, hx⟩ := hd.tupI
    obtain ⟨u1, us1, rfl, hu1, hu⟩ := hx.consI
    obtain ⟨u2, us2, rfl, hu2, hu⟩ := hu.consI
    obtain ⟨u3, us3, rfl, hu3, hu⟩ := hu.consI
    cases hu.nilI
    cases hu1.strI
    cases da_toV hu3 hf
    refine ⟨_, rfl, a, _, _, _, rfl, rfl, hs, atI_nat (j := 0) rfl, ?_⟩
    refine ⟨_, rfl, rfl, _, rfl, goF (by decide +kernel) ⟨_, rfl, rfl, _, rfl, goT rfl ⟨_, rfl, a, _, _, _, rfl, rfl, hs, atI_nat (j := 2) rfl, q⟩⟩⟩
theorem kn_never (D : Def0 K mg "_law_value" (top 63)) (T : TxtE K w mg) : Kn P w K mg base CX0 "_law_value" 1 ["tree", "places", "line_here"] [] (fun _ _ _ _ => False) := by
  obtain ⟨f, fd, F, m⟩ := D
  have sc_ : FnScope ["tree", "places", "line_here", "word", "some", "strong", "part"] ["tree", "places", "line_here"] (defScope (top 63)) := ⟨rfl, rfl, rfl, by decide +kernel, rfl, by decide +kernel, by decide +kernel⟩
  exact kn_of F m (F.ok sc_ (fun vs H Q E h => False.elim h) (fun cdv A outer s H vs Q E hr h => False.elim h)) (F.bindsN fun _ _ _ _ _ _ us hl => match us, hl with | [_, _, _], _ => rfl)
theorem kn__law_value (D : Def0 K mg "_law_value" (top 63)) (T : TxtE K w mg) (F__law_counted : Kn P w K mg base CX0 "_law_counted" 1 ["word", "x", "y"] [] spTwo) (F__law_value : Kn P w K mg base CX0 "_law_value" 2 ["tree", "places", "line_here"] [] (spLV0 K)) : Kn P w K mg base CX0 "_law_value" 3 ["tree", "places", "line_here"] [] (spLV1 K) := by
  obtain ⟨f, fd, F, m⟩ := D
  have sc_ : FnScope ["tree", "places", "line_here", "word", "some", "strong", "part"] ["tree", "places", "line_here"] (defScope (top 63)) := ⟨rfl, rfl, rfl, by decide +kernel, rfl, by decide +kernel, by decide +kernel⟩
  refine kn_of F m (F.ok sc_ (fun vs H Q E h => ?_) (fun cdv A outer s H vs Q E hr h => ?_)) (F.bindsN fun _ _ _ _ _ _ us hl => match us, hl with | [_, _, _], _ => rfl)
  · obtain ⟨v, p, l, e, rfl, _⟩ := h; rfl
  · obtain ⟨v, pv_, lv_, e, rfl, hd, g4, ho, hc, ⟨k, hk⟩, q⟩ := h
    refine ⟨_, PSs.nox (pss_cons (ps_set (i := 3) sc_.nd rfl (by first | exact Or.inl rfl | exact Or.inr rfl) (pe_ix (k_ixT (K := K)) (pv 0) pe_int (fun _ _ => rfl)))
      (pss_cons (ps_if (pt_cmpR op_eq (pv 3) pe_str (nomark _)) (pss_one (ps_ret (pe_ix (k_ix (K := K)) (pv 2) (pe_ix (k_ix (K := K)) (pv 1) (pe_ix (k_ixT (K := K)) (pv 0) pe_int (fun _ _ => rfl)) (fun _ _ => rfl)) (fun _ _ => rfl)))) pss_nil)
      (pss_cons (ps_if (pt_cmpR op_eq (pv 3) pe_str (nomark _)) (pss_one (ps_ret (pe_ix (k_ixT (K := K)) (pv 0) pe_int (fun _ _ => rfl)))) pss_nil)
      (pss_cons (ps_setLc (i := 4) (own := [("part", 6)]) (g := gName 6) (by rfl) sc_.nd rfl rfl (sw_true rfl rfl rfl (by decide +kernel)) (k_tup (K := K) (pe_slice (k_slA (K := K)) (pv 0) (po_some pe_int) po_none)) (blkOk_by (N := ["tree", "places", "line_here", "word", "some", "strong", "part"]) (sc := defScope (top 63)) (by decide +kernel)) (fun _ _ _ _ _ => (pg_name (i := 6) sc_.nd rfl (by first | exact Or.inl rfl | exact Or.inr rfl))) (fun _ _ _ _ _ => pts_nil) (fun _ _ _ _ _ => (pe_own F__law_value hr (by first | decide | omega | (simp only [Nat.add_eq]; omega)) pass0 (pa_cons (pv 6) (pa_cons (pv 1) (pa_cons (pv 2) pa_nil))))))
      (pss_cons (ps_if (pt_cmpR (k_in (K := K)) (pv 3) (pe_lst (pa_cons pe_str (pa_cons pe_str pa_nil))) (by rfl)) (pss_cons (ps_set (i := 5) sc_.nd rfl (by first | exact Or.inl rfl | exact Or.inr rfl) (pe_cmpR op_eq (pv 3) pe_str (nomark _)))
      (pss_one (ps_ret (pe_ifExp (pt_cmpR (k_in (K := K)) (pv 5) (pv 4) (by rfl)) (pv 5) (pe_ifExp (pt_cmpR (k_in (K := K)) pe_non (pv 4) (by rfl)) pe_non (pe_not (pv 5))))))) pss_nil)
      (pss_cons (ps_if (pt_cmpR op_eq (pv 3) pe_str (nomark _)) (pss_one (ps_ret (pe_cmpR op_notN (pe_ix (k_ixL (K := K)) (pv 4) pe_int (fun _ _ => rfl)) pe_non (nomark _)))) pss_nil)
      (pss_cons (ps_if (pt_cmpR op_eq (pv 3) pe_str (nomark _)) (pss_one (ps_ret (pe_ifExp (pt_cmpR op_isX (pe_ix (k_ixL (K := K)) (pv 4) pe_int (fun _ _ => rfl)) pe_bl (nomark _)) (pe_ix (k_ixL (K := K)) (pv 4) pe_int (fun _ _ => rfl)) (pe_ix (k_ixL (K := K)) (pv 4) pe_int (fun _ _ => rfl))))) pss_nil)
      (pss_cons (ps_if (pt_cmpR op_eq (pv 3) pe_str (nomark _)) (pss_one (ps_ret (pe_ifExp (pt_cmpR op_isN (pe_ix (k_ixL (K := K)) (pv 4) pe_int (fun _ _ => rfl)) pe_non (nomark _)) (pe_ix (k_ixL (K := K)) (pv 4) pe_int (fun _ _ => rfl)) (pe_ix (k_ixL (K := K)) (pv 4) pe_int (fun _ _ => rfl))))) pss_nil)
      (pss_cons (ps_if (pt_cmpR (k_in (K := K)) pe_non (pv 4) (by rfl)) (pss_one (ps_ret pe_non)) pss_nil)
      (pss_cons (ps_if (pt_cmpR op_eq (pv 3) pe_str (nomark _)) (pss_one (ps_ret (pe_not (pe_ix (k_ixL (K := K)) (pv 4) pe_int (fun _ _ => rfl))))) pss_nil)
      (pss_one (ps_ret (pe_ifExp (pt_cmpR op_eq (pv 3) pe_str (nomark _)) (pe_callB call_len_str (by rfl) T.z_len (by decide +kernel) (pa_cons (pe_ix (k_ixL (K := K)) (pv 4) pe_int (fun _ _ => rfl)) pa_nil)) (pe_own F__law_counted hr (by first | decide | omega | (simp only [Nat.add_eq]; omega)) pass0 (pa_cons (pv 3) (pa_cons (pe_ix (k_ixL (K := K)) (pv 4) pe_int (fun _ _ => rfl)) (pa_cons (pe_ix (k_ixL (K := K)) (pv 4) pe_int (fun _ _ => rfl)) pa_nil))))))))))))))))), ?_⟩
    have hop := opOk_of g4 ho hc hk
    obtain ⟨ht, hn1, hn2⟩ := Ex.op_tab g4.wf ho
    obtain ⟨a, xs, rfl, hs, hx⟩ := Ex.open hd
    rw [Ex.op_items ho] at hx
    refine ⟨_, rfl, a, _, _, _, rfl, rfl, hs, atI_nat (j := 0) rfl, ?_⟩
    refine ⟨_, rfl, rfl, _, rfl, goF hn1 ⟨_, rfl, rfl, _, rfl, goF hn2 ⟨_, rfl, 1, rfl, ?_⟩⟩⟩
    dsimp only [tNoPart]
    refine slA1 hs fun p hp => ?_
    have s0 := same_new hp (o := .tup xs)
    have cx : ∀ {x0 : Ex} {i : Nat}, e.parts[i]? = some x0 → x0 = .val (vkE x0) (vvE x0) ∧ Ok (vkE x0) 40 (vvE x0) := fun h => const_ok (g4.part (List.mem_of_getElem? h)) (List.all_eq_true.mp hc _ (List.mem_of_getElem? h))
    have hlx : xs.length = e.parts.length := by rw [hx.length, List.length_map]
    refine ⟨p, rfl, ⟨_, SqT.of upd_same⟩, fun Dd hD => lc_ok (walk_tup (K := K) (a := p) (xs := xs)) (fun i y _ => ∃ x0, e.parts[i]? = some x0 ∧ y = toV (vvE x0)) hD (by rw [hlx]; exact Nat.lt_of_le_of_lt e.parts_le (by decide)) (fun H1 e1 => same_t e1 (SqT.of upd_same)) (fun _ _ _ _ _ _ h => h) (fun _ _ _ _ h => by rw [h.1]; exact Same.refl _) ?_ ?_⟩
    · rintro i x H1 H' hi s1 ⟨rfl, hxi⟩ Q' kk
      obtain ⟨d, hd1, hd2⟩ := DaL.get hx hxi
      rw [List.getElem?_map, Option.map_eq_some_iff] at hd1
      obtain ⟨x0, hx0, rfl⟩ := hd1
      have hd3 := hd2.mono (s0.trans s1)
      rw [(cx hx0).1] at hd3
      exact ⟨rfl, _, rfl, _, rfl, _, rfl, x, _, _, _, _, rfl, hd3, (cx hx0).2.flat (by decide), kk _ _ (Same.refl _) ⟨x0, hx0, rfl⟩⟩
    · intro H1 acc s1 hacc hla hra
      have s01 := s0.trans s1
      have ea : acc = (e.parts.map vvE).map toV := by
        rw [List.map_map]
        exact map_of (by rw [hla, hlx]) hra
      subst ea
      have q1 : ∀ H', Same H1 H' → Q (toV (valB e.word (e.parts.map vvE))) H' := fun H' e' => q H' (s01.trans e')
      have hall : ∀ d ∈ e.parts.map vvE, ∃ k, Ok k 40 d := by
        intro d hd
        obtain ⟨x0, hx0, rfl⟩ := List.mem_map.mp hd
        obtain ⟨i, hi⟩ := List.mem_iff_getElem?.mp hx0
        exact ⟨_, (cx hi).2⟩
      have hkb : ∃ ks, ks = e.parts.map vkE := ⟨_, rfl⟩
      obtain ⟨ks, hks⟩ := hkb
      obtain ⟨ds, hds⟩ : ∃ ds, ds = e.parts.map vvE := ⟨_, rfl⟩
      rw [← hks] at hop hk
      rw [← hds] at hop hall q1 hacc
      change tSeq _ _ _ [some (.ref a), some pv_, some lv_, some (.str e.word), some (.ref Dd), none, none] _
      generalize e.word = z at hop hk q1 hn1 hn2 ⊢
      have hs1 : SqL K H1 Dd (ds.map toV) := SqL.of hacc
      refine ⟨_, rfl, l2k 2 (by decide), fun t1 ht1 => ?_⟩
      have f1 := same_new ht1 (o := .lst [.str "and", .str "or"])
      refine ⟨t1, _, rfl, .inl (SqL.of upd_same), rfl, flat_strs ["and", "or"], _, rfl, ?_⟩
      show (if inV (.str z) ((["and", "or"] : List Str).map V.str) = true then _ else _)
      rw [inV_strs]
      have hs2 := Same.seq f1 hs1
      by_cases hao : z = "and" ∨ z = "or"
      · rw [decide_eq_true (by simpa using hao)]
        have hbool : ∀ d ∈ ds, Ok "bool" 40 d := by
          obtain ⟨_, hc3⟩ := hop
          rcases hc3 with ⟨a, d1, rfl, h, hw, _⟩ | ⟨a, b, d1, e1, rfl, h, hw, g1, g2⟩ | ⟨a, b, c, d1, e1, f1, rfl, h, hw, _⟩
          · rcases hao with rfl | rfl <;> exact absurd hw (by decide +kernel)
          · have : a = "bool" ∧ b = "bool" := by
              rcases two_cases hw hk with ⟨g, _⟩ | ⟨g, _⟩ | ⟨_, h1, h2, _⟩ | ⟨g, _⟩ | ⟨g, _⟩
              · rcases hao with rfl | rfl <;> exact absurd g (by decide +kernel)
              · rcases hao with rfl | rfl <;> exact absurd g (by decide +kernel)
              · exact ⟨h1, h2⟩
              · rcases hao with rfl | rfl <;> exact absurd g (by decide +kernel)
              · rcases hao with rfl | rfl <;> exact absurd g (by decide +kernel)
            obtain ⟨rfl, rfl⟩ := this
            rw [h]
            intro d hd
            simp at hd
            rcases hd with rfl | rfl <;> assumption
          · rcases hao with rfl | rfl <;> exact absurd hw (by decide +kernel)
        have hv : valB z ds = settle (decide (z = "or")) ds := by
          rcases hao with rfl | rfl
          · rw [vb_and]; rfl
          · rw [vb_or]; rfl
        rw [hv] at q1
        refine iteT ⟨_, rfl, rfl, ?_⟩
        rw [show decide (V.str z = V.str "or") = decide (z = "or") from all_iff ⟨fun h => V.str.inj h, fun h => congrArg V.str h⟩]
        have q2 := q1 _ f1
        unfold settle at q2
        refine ⟨_, rfl, _, rfl, Dd, _, rfl, .inl hs2, rfl, flat_toV ds, _, rfl, ?_⟩
        show (if inV (.bl (decide (z = "or"))) (ds.map toV) = true then _ else _)
        rw [inV_bl hbool]
        by_cases c : ds.any (isB (decide (z = "or"))) = true
        · rw [c]
          rw [if_pos c] at q2
          exact iteT ⟨_, rfl, q2⟩
        · rw [show ds.any (isB (decide (z = "or"))) = false by simpa using c]
          rw [if_neg c] at q2
          refine iteF ⟨_, rfl, Dd, _, rfl, .inl hs2, rfl, flat_toV ds, _, rfl, ?_⟩
          show (if inV .non (ds.map toV) = true then _ else _)
          rw [inV_no hall]
          by_cases c2 : ds.any isNo = true
          · rw [c2]
            rw [if_pos c2] at q2
            exact iteT q2
          · rw [show ds.any isNo = false by simpa using c2]
            rw [if_neg c2] at q2
            exact iteF ⟨_, rfl, _, rfl, q2⟩
      rw [decide_eq_false (by simpa using hao)]
      refine iteF ⟨_, rfl, rfl, _, rfl, ?_⟩
      have hix : ∀ {i : Nat} {d : PyData}, ds[i]? = some d → atI (ds.map toV) (i : Int) = some (toV d) := fun h => atI_nat (by rw [List.getElem?_map, h]; rfl)
      obtain ⟨d0, ds', hd0⟩ : ∃ d0 ds', ds = d0 :: ds' := by
        rcases hop.2 with ⟨a, d1, _, h, _⟩ | ⟨a, b, d1, e1, _, h, _⟩ | ⟨a, b, c, d1, e1, f1, _, h, _⟩ <;> exact ⟨_, _, h⟩
      have h0 : ds[0]? = some d0 := by rw [hd0]; rfl
      obtain ⟨k0, hok0⟩ := hall d0 (by rw [hd0]; exact List.mem_cons_self ..)
      have q2 := q1 _ f1
      by_cases h3 : z = "there"
      · subst h3
        refine goT rfl ⟨_, rfl, Dd, _, _, _, rfl, rfl, hs2, hix h0, rfl, ?_⟩
        rw [no_iff hok0]
        rw [vb_there, hd0] at q2
        exact q2
      refine goF h3 ⟨_, rfl, rfl, _, rfl, ?_⟩
      by_cases h4 : z = "if"
      · subst h4
        obtain ⟨d, e9, g, hds3⟩ : ∃ d e f, ds = [d, e, f] := by
          rcases hop.2 with ⟨_, _, _, _, hw, _⟩ | ⟨_, _, _, _, _, _, hw, _⟩ | ⟨_, _, _, d, e, f, _, h, _⟩
          · exact absurd hw (by decide +kernel)
          · exact absurd hw (by decide +kernel)
          · exact ⟨d, e, f, h⟩
        have i0 : ds[0]? = some d := by rw [hds3]; rfl
        have i1 : ds[1]? = some e9 := by rw [hds3]; rfl
        have i2 : ds[2]? = some g := by rw [hds3]; rfl
        rw [vb_if, hds3] at q2
        have q3 : Q (toV (if isB true d then e9 else g)) _ := q2
        refine goT rfl ⟨_, rfl, Dd, _, _, _, rfl, rfl, hs2, hix i0, true, rfl, toV_flat d, _, rfl, ?_⟩
        rw [toV_bl]
        by_cases c : isB true d = true
        · rw [c]
          rw [if_pos c] at q3
          exact iteT ⟨_, rfl, Dd, _, _, _, rfl, rfl, hs2, hix i1, q3⟩
        · rw [show isB true d = false by simpa using c]
          rw [if_neg c] at q3
          exact iteF ⟨_, rfl, Dd, _, _, _, rfl, rfl, hs2, hix i2, q3⟩
      refine goF h4 ⟨_, rfl, rfl, _, rfl, ?_⟩
      have twoL : ∀ y, z = y → y ∉ onesL → y ≠ "if" → ∃ a b d e, ks = [a, b] ∧ ds = [d, e] ∧ z ∈ twosL ∧ Ok a 40 d ∧ Ok b 40 e := by
        intro y hy h1 h2
        rcases hop.2 with ⟨_, _, _, _, hw, _⟩ | h | ⟨_, _, _, _, _, _, _, _, hw, _⟩
        · rw [hy] at hw; exact absurd hw h1
        · exact h
        · rw [hy] at hw; exact absurd hw h2
      by_cases h5 : z = "else"
      · subst h5
        obtain ⟨_, _, d, e9, _, hds3, _, ok1, ok2⟩ := twoL _ rfl (by decide +kernel) (by decide +kernel)
        have i0 : ds[0]? = some d := by rw [hds3]; rfl
        have i1 : ds[1]? = some e9 := by rw [hds3]; rfl
        rw [vb_else, hds3] at q2
        have q3 : Q (toV (if isNo d then e9 else d)) _ := q2
        refine goT rfl ⟨_, rfl, Dd, _, _, _, rfl, rfl, hs2, hix i0, rfl, _, rfl, ?_⟩
        rw [no_iff ok1]
        by_cases c : isNo d = true
        · rw [c]
          rw [if_pos c] at q3
          exact iteT ⟨_, rfl, Dd, _, _, _, rfl, rfl, hs2, hix i1, q3⟩
        · rw [show isNo d = false by simpa using c]
          rw [if_neg c] at q3
          exact iteF ⟨_, rfl, Dd, _, _, _, rfl, rfl, hs2, hix i0, q3⟩
      refine goF h5 ⟨_, rfl, Dd, _, rfl, .inl hs2, rfl, flat_toV ds, _, rfl, ?_⟩
      show (if inV .non (ds.map toV) = true then _ else _)
      rw [inV_no hall]
      have h1 : z ≠ "and" := fun c => hao (.inl c)
      have h2 : z ≠ "or" := fun c => hao (.inr c)
      by_cases c2 : ds.any isNo = true
      · rw [c2]
        have : valB z ds = .none := by
          by_cases h6 : z = "not"
          · subst h6; rw [vb_not, if_pos c2]
          · by_cases h7 : z = "size"
            · subst h7; rw [vb_size, if_pos c2]
            · rw [vb_two (by simp [sevenL, h1, h2, h3, h4, h5, h6, h7]), if_pos c2]
        rw [this] at q2
        exact iteT q2
      · rw [show ds.any isNo = false by simpa using c2]
        refine iteF ⟨_, rfl, rfl, _, rfl, ?_⟩
        by_cases h6 : z = "not"
        · subst h6
          rw [vb_not, if_neg c2] at q2
          obtain ⟨a', d, rfl, hds3, _, ok1⟩ : ∃ a d, ks = [a] ∧ ds = [d] ∧ ("not" : Str) ∈ onesL ∧ Ok a 40 d := by
            rcases hop.2 with h | ⟨_, _, _, _, _, _, hw, _⟩ | ⟨_, _, _, _, _, _, _, _, hw, _⟩
            · exact h
            · exact absurd hw (by decide +kernel)
            · exact absurd hw (by decide +kernel)
          have i0 : ds[0]? = some d := by rw [hds3]; rfl
          rw [hds3] at c2 q2
          rcases one_cases (by decide +kernel) hk with ⟨c, _⟩ | ⟨_, rfl, _⟩ | ⟨c, _⟩
          · exact absurd c (by decide +kernel)
          · rcases val_cases ok1.1 ok1.2.1 with rfl | ⟨c, _⟩ | ⟨c, _⟩ | ⟨_, p9, rfl⟩
            · exact absurd rfl c2
            · exact absurd c (by decide +kernel)
            · exact absurd c (by decide +kernel)
            · refine goT rfl ⟨_, rfl, Dd, _, _, _, rfl, rfl, hs2, hix i0, ?_⟩
              cases p9 <;> exact ⟨_, rfl, q2⟩
          · exact absurd c (by decide +kernel)
        refine goF h6 ⟨_, rfl, rfl, _, rfl, ?_⟩
        by_cases h7 : z = "size"
        · subst h7
          rw [vb_size, if_neg c2] at q2
          obtain ⟨a', d, rfl, hds3, _, ok1⟩ : ∃ a d, ks = [a] ∧ ds = [d] ∧ ("size" : Str) ∈ onesL ∧ Ok a 40 d := by
            rcases hop.2 with h | ⟨_, _, _, _, _, _, hw, _⟩ | ⟨_, _, _, _, _, _, _, _, hw, _⟩
            · exact h
            · exact absurd hw (by decide +kernel)
            · exact absurd hw (by decide +kernel)
          have i0 : ds[0]? = some d := by rw [hds3]; rfl
          rw [hds3] at c2 q2
          rcases one_cases (by decide +kernel) hk with ⟨c, _⟩ | ⟨c, _⟩ | ⟨_, rfl, _⟩
          · exact absurd c (by decide +kernel)
          · exact absurd c (by decide +kernel)
          · rcases val_cases ok1.1 ok1.2.1 with rfl | ⟨c, _⟩ | ⟨_, y, rfl, _⟩ | ⟨c, _⟩
            · exact absurd rfl c2
            · exact absurd c (by decide +kernel)
            · have hy : y.length ≤ 40 * 40 := ok1.2.2
              exact goT rfl ⟨_, rfl, Dd, _, _, _, rfl, rfl, hs2, hix i0, y, rfl, Nat.le_trans hy (by decide), q2⟩
            · exact absurd c (by decide +kernel)
        refine goF h7 ?_
        rw [vb_two (by simp [sevenL, h1, h2, h3, h4, h5, h6, h7]), if_neg c2] at q1
        obtain ⟨a', b', d, e9, rfl, hds3, hw, ok1, ok2⟩ : ∃ a b d e, ks = [a, b] ∧ ds = [d, e] ∧ z ∈ twosL ∧ Ok a 40 d ∧ Ok b 40 e := by
          rcases hop.2 with ⟨_, _, _, _, hw, _⟩ | h | ⟨_, _, _, _, _, _, _, _, hw, _⟩
          · exfalso
            simp only [onesL, List.mem_cons, List.not_mem_nil, or_false] at hw
            rcases hw with h | h | h <;> contradiction
          · exact h
          · exact absurd hw h4
        have i0 : ds[0]? = some d := by rw [hds3]; rfl
        have i1 : ds[1]? = some e9 := by rw [hds3]; rfl
        rw [hds3] at c2 q1
        have hn : isNo d = false ∧ isNo e9 = false := by
          cases hd : isNo d <;> cases he : isNo e9 <;> simp [hd, he] at c2 ⊢
        exact ⟨_, rfl, _, rfl, Dd, _, _, _, rfl, rfl, hs2, hix i0, _, rfl, Dd, _, _, _, rfl, rfl, hs2, hix i1, z, a', b', d, e9, rfl, ⟨hw, ⟨k, hk⟩, ok1, ok2, hn.1, hn.2⟩, fun h => by rcases h with h | h | h <;> contradiction, fun H' e' => q1 H' (f1.trans e')⟩
end
end Z
set_option Elab.async false
set_option linter.all false
set_option autoImplicit false
set_option maxRecDepth 100000
set_option maxHeartbeats 4000000
namespace Z
open PySem PySem.Spec PyProof.Rows L2
theorem slA2 {K : PySem.W.Frag} {H : Hp} {a : Addr} {xs : List V} {Q : VK} (h : SqT K H a xs) (q : ∀ p H', Same H H' → SqT K H' p (xs.take 2) → Q (.ref p) H') : rSlA K (.ref a) none (some 2) H Q := by
  have e0 : HT.sIx xs.length 0 none = 0 := rfl
  have e1 : HT.sIx xs.length xs.length (some 2) = min 2 xs.length := HT.sIx_nat _ _ 2
  refine ⟨a, _, rfl, h, fun c => q a H (Same.refl _) ?_, fun _ p hp => q p _ (same_new hp) ?_⟩
  · have h2 := c.2
    rw [e1] at h2
    rw [List.take_of_length_le (by omega)]; exact h
  · have e2 : cutV xs none (some 2) = xs.take 2 := by
      unfold cutV
      rw [e0, e1, List.drop_zero, Nat.sub_zero]
      rcases Nat.le_total 2 xs.length with h | h
      · rw [Nat.min_eq_left h]
      · rw [Nat.min_eq_right h, List.take_of_length_le h, List.take_of_length_le (Nat.le_refl _)]
    rw [e2]; exact SqT.of upd_same
def optB : Option Bool → V
  | some b => .bl b
  | none => .non
/-- what an expression begins with: its word and its first item -/
theorem Ex.head2 {K : PySem.W.Frag} {H : Hp} {e : Ex} {a : Addr} {xs : List V} (hs : SqT K H a (.str e.word :: xs)) (hx : DaL K H xs e.items) {p : Addr} {H' : Hp} (e1 : Same H H') (hp : SqT K H' p ((V.str e.word :: xs).take 2)) (g : G4 e) :
    ∃ d, Da K H' (.ref p) d ∧ SeqAt.shaped d = true ∧ PyData.eqv d (.tuple [.str "value", .str "bool"]) = (constE e && (vkE e == "bool")) := by
  have hpure := G4.canLay g.wf
  have hsh := g.shaped (by decide)
  have hdep := Ex.depth e rfl g.wf
  have hlv := g.levels
  rw [Ex.d_items] at hpure hsh hdep
  cases e with
  | col n =>
    obtain ⟨u1, us, rfl, h1, hn⟩ := hx.consI
    cases hn.nilI
    refine ⟨.tuple [.str "col", .str n], .tup hp (.cons (.str _ (Nat.le_trans (Ex.word_len g.wf) (by decide))) (.cons (h1.mono e1) .nil)), hsh, ?_⟩
    show (("col" : Str) == "value" && (n == "bool" && true)) = _
    rw [show (("col" : Str) == "value") = false by decide +kernel]; rfl
  | val k v =>
    obtain ⟨u1, us, rfl, h1, hn⟩ := hx.consI
    have hw := g.wf
    simp only [Ex.wf, Bool.and_eq_true] at hw
    refine ⟨.tuple [.str "value", .str k], .tup hp (.cons (.str _ (Nat.le_trans (Ex.word_len g.wf) (by decide))) (.cons (h1.mono e1) .nil)), shaped_of ?_ (by simp only [PyData.depth, PyData.depthAll]; omega), ?_⟩
    · have := (kind_ok hw.1).2
      simp only [PyData.canLay0, PyData.canLayAll0, this, Bool.and_true]
      decide +kernel
    · show (("value" : Str) == "value" && (k == "bool" && true)) = _
      rw [beq_self_eq_true, Bool.and_true]; rfl
  | one w x =>
    obtain ⟨u1, us, rfl, h1, hn⟩ := hx.consI
    cases hn.nilI
    have hw := (Ex.op_tab g.wf rfl).2.2
    refine ⟨.tuple [.str w, x.d], .tup hp (.cons (.str _ (Nat.le_trans (Ex.word_len g.wf) (by decide))) (.cons (h1.mono e1) .nil)), hsh, ?_⟩
    show (w == "value" && _) = false
    rw [show (w == "value") = false from beq_eq_false_iff_ne.mpr hw]; rfl
  | two w x y =>
    obtain ⟨u1, us, rfl, h1, hn⟩ := hx.consI
    have hw := (Ex.op_tab g.wf rfl).2.2
    have gx : G4 x := g.part (List.mem_cons_self ..)
    have hwf := g.wf
    simp only [Ex.wf, Bool.and_eq_true] at hwf
    have hwl : PyData.strOk w = true := by
      have : (twosL.all fun w => PyData.strOk w) = true := by decide +kernel
      exact List.all_eq_true.mp this w (by simpa using hwf.1)
    refine ⟨.tuple [.str w, x.d], .tup hp (.cons (.str _ (Nat.le_trans (Ex.word_len g.wf) (by decide))) (.cons (h1.mono e1) .nil)), shaped_of ?_ ?_, ?_⟩
    · simp only [PyData.canLay0, PyData.canLayAll0, G4.canLay gx.wf, hwl, Bool.and_true]
    · have := Ex.depth x rfl gx.wf
      have := gx.levels
      simp only [PyData.depth, PyData.depthAll]
      omega
    · show (w == "value" && _) = false
      rw [show (w == "value") = false from beq_eq_false_iff_ne.mpr hw]; rfl
  | ife x y z =>
    obtain ⟨u1, us, rfl, h1, hn⟩ := hx.consI
    have gx : G4 x := g.part (List.mem_cons_self ..)
    refine ⟨.tuple [.str "if", x.d], .tup hp (.cons (.str _ (Nat.le_trans (Ex.word_len g.wf) (by decide))) (.cons (h1.mono e1) .nil)), shaped_of ?_ ?_, ?_⟩
    · simp only [PyData.canLay0, PyData.canLayAll0, G4.canLay gx.wf, Bool.and_true]
      decide +kernel
    · have := Ex.depth x rfl gx.wf
      have := gx.levels
      simp only [PyData.depth, PyData.depthAll]
      omega
    · show (("if" : Str) == "value" && PyData.eqvAll [x.d] [.str "bool"]) = _
      rw [show (("if" : Str) == "value") = false by decide +kernel]; rfl
theorem truth_of {e : Ex} (g : G4 e) : (if (constE e && (vkE e == "bool")) = true then toV (vvE e) else .non) = optB (truthE e) := by
  cases e with
  | val k v =>
    have hw := g.wf
    simp only [Ex.wf, Bool.and_eq_true] at hw
    rcases val_cases hw.1 hw.2.1 with rfl | ⟨rfl, i, rfl⟩ | ⟨rfl, i, rfl, _⟩ | ⟨rfl, i, rfl⟩
    · show (if _ then V.non else V.non) = V.non; split <;> rfl
    · exact if_neg (by show ¬ (true && (("int" : Str) == "bool")) = true; decide +kernel)
    · exact if_neg (by show ¬ (true && (("text" : Str) == "bool")) = true; decide +kernel)
    · exact if_pos (by show (true && (("bool" : Str) == "bool")) = true; decide +kernel)
  | _ => rfl
theorem rep_word (z : Str) (n : Nat) : (List.replicate (((n : Nat) : Int)).toNat [V.str z]).flatten = (List.replicate n z).map V.str := by
  rw [Int.toNat_natCast, List.map_replicate]
  induction n with
  | zero => rfl
  | succ n ih => simp [List.replicate_succ, ih]
theorem Ex.word_ok {e : Ex} (h : e.wf = true) : PyData.strOk e.word = true := by
  have := G4.canLay h
  rw [Ex.d_items] at this
  simp only [PyData.canLay0, PyData.canLayAll0, Bool.and_eq_true] at this
  exact this.1
theorem words_const : ∀ {L : List Ex}, (∀ x ∈ L, x.wf = true) → decide (L.map Ex.word = List.replicate L.length ("value" : Str)) = L.all constE
  | [], _ => rfl
  | x :: L, h => by
    have ih := words_const (L := L) fun y hy => h y (List.mem_cons_of_mem _ hy)
    have hx := word_val (h x (List.mem_cons_self ..))
    have e1 : decide (x.word = "value") = constE x := by rw [← hx]; exact all_iff ⟨fun h => congrArg V.str h, fun h => V.str.inj h⟩
    simp only [List.map_cons, List.length_cons, List.replicate_succ, List.all_cons]
    rw [← ih, ← e1]
    rw [all_iff (q := x.word = "value" ∧ L.map Ex.word = List.replicate L.length ("value" : Str)) (by simp)]
    by_cases a : x.word = "value"
    · by_cases b : L.map Ex.word = List.replicate L.length ("value" : Str)
      · simp [a, b]
      · simp [a, b]
    · simp [a]
theorem kindBT {e : Ex} (hw : e.wf = true) (ho : e.isOp = true) : kindB e.word (e.parts.map vkE) = kindT e.word (e.parts.map vkE) := by
  cases e with
  | col n => cases ho
  | val k v => cases ho
  | one z x =>
    simp only [Ex.wf, Bool.and_eq_true] at hw
    exact kindT_1 (by simpa using hw.1 : z ∈ onesL)
  | two z x y =>
    simp only [Ex.wf, Bool.and_eq_true] at hw
    exact kindT_2 (by simpa using hw.1 : z ∈ twosL)
  | ife x y z => exact kindT_3
theorem arity {e : Ex} (hw : e.wf = true) (ho : e.isOp = true) : (∃ a, e.parts.map vkE = [a] ∧ e.word ∈ onesL) ∨ (∃ a b, e.parts.map vkE = [a, b] ∧ e.word ∈ twosL) ∨ (∃ a b c, e.parts.map vkE = [a, b, c] ∧ e.word = "if") := by
  cases e with
  | col n => cases ho
  | val k v => cases ho
  | one z x =>
    simp only [Ex.wf, Bool.and_eq_true] at hw
    exact .inl ⟨_, rfl, (by simpa using hw.1 : z ∈ onesL)⟩
  | two z x y =>
    simp only [Ex.wf, Bool.and_eq_true] at hw
    exact .inr (.inl ⟨_, _, rfl, (by simpa using hw.1 : z ∈ twosL)⟩)
  | ife x y z => exact .inr (.inr ⟨_, _, _, rfl, rfl⟩)
theorem truth_some {e : Ex} {t : Bool} (g : G4 e) (h : truthE e = some t) : e = .val "bool" (.bool t) := by
  cases e with
  | val k v =>
    have hw := g.wf
    simp only [Ex.wf, Bool.and_eq_true] at hw
    rcases val_cases hw.1 hw.2.1 with rfl | ⟨rfl, i, rfl⟩ | ⟨rfl, i, rfl, _⟩ | ⟨rfl, i, rfl⟩
    · cases h
    · cases h
    · cases h
    · cases h; rfl
  | _ => cases h
theorem truth_none {e : Ex} (g : G4 e) (h : truthE e = none) (hc : (constE e && (vkE e == "bool")) = true) : toV (vvE e) = .non := by
  have := truth_of g
  rw [if_pos hc, h] at this
  exact this
section
variable {P : Program} {w : World} {K : PySem.W.Frag} {mg : Str → Option Value} {base : Heap}
theorem kn__law_folded (D : Def0 K mg "_law_folded" (top 68)) (T : TxtE K w mg) (F__law_wanted : Kn P w K mg base CX0 "_law_wanted" 1 ["word", "kinds"] [] (spWant K)) (F__law_value : Kn P w K mg base CX0 "_law_value" 3 ["tree", "places", "line_here"] [] (spLV1 K)) : ∀ n, Kn P w K mg base CX0 "_law_folded" (4 + n) ["tree"] [] (spFW K n) := by
  obtain ⟨f, fd, F, m⟩ := D
  have sc_ : FnScope ["tree", "word", "some", "whole", "kind_here", "k", "truth", "part"] ["tree"] (defScope (top 68)) := ⟨rfl, rfl, rfl, by decide +kernel, rfl, by decide +kernel, by decide +kernel⟩
  intro n
  induction n with
  | zero =>
    refine kn_of F m (F.ok sc_ (fun vs H Q E h => ?_) (fun cdv A outer s H vs Q E hr h => ?_)) (F.bindsN fun _ _ _ _ _ _ us hl => match us, hl with | [_], _ => rfl)
    · obtain ⟨v, e, rfl, _⟩ := h; rfl
    · obtain ⟨v, e, rfl, _, _, hl, _⟩ := h
      have := e.levels_pos
      omega
  | succ n ih =>
    have F__law_folded := ih
    refine kn_of F m (F.ok sc_ (fun vs H Q E h => ?_) (fun cdv A outer s H vs Q E hr h => ?_)) (F.bindsN fun _ _ _ _ _ _ us hl => match us, hl with | [_], _ => rfl)
    · obtain ⟨v, e, rfl, _⟩ := h; rfl
    · obtain ⟨v, e, rfl, hd, hsrc, hl, q⟩ := h
      refine ⟨_, PSs.nox (pss_cons (ps_if (pt_cmpR (k_in (K := K)) (pe_ix (k_ixT (K := K)) (pv 0) pe_int (fun _ _ => rfl)) (pe_lst (pa_cons pe_str (pa_cons pe_str pa_nil))) (by rfl)) (pss_one (ps_ret (pv 0))) pss_nil)
      (pss_cons (ps_par (i := 1) (j := 2) (by rfl) sc_.nd rfl rfl (by decide) rfl rfl (pa_cons (pe_ix (k_ixT (K := K)) (pv 0) pe_int (fun _ _ => rfl)) (pa_cons (pe_lc (own := [("part", 7)]) (g := gName 7) (by rfl) sc_.nd (k_tup (K := K) (pe_slice (k_slA (K := K)) (pv 0) (po_some pe_int) po_none)) (blkOk_by (N := ["tree", "word", "some", "whole", "kind_here", "k", "truth", "part"]) (sc := defScope (top 68)) (by decide +kernel)) (fun _ _ _ _ _ => (pg_name (i := 7) sc_.nd rfl (by first | exact Or.inl rfl | exact Or.inr rfl))) (fun _ _ _ _ _ => pts_nil) (fun _ _ _ _ _ => (pe_own F__law_folded hr (by first | decide | omega | (simp only [Nat.add_eq]; omega)) pass0 (pa_cons (pv 7) pa_nil)))) pa_nil)) (by rfl))
      (pss_cons (ps_set (i := 3) sc_.nd rfl (by first | exact Or.inl rfl | exact Or.inr rfl) (pe_op (k_catA (K := K)) (pe_tup (pa_cons (pv 1) pa_nil)) (pe_callTy (k_tupOf (K := K)) (by rfl) T.z_tuple (by decide +kernel) (pa_cons (pv 2) pa_nil))))
      (pss_cons (ps_if (pt_cmpR (k_eqD (K := K) hr.units) (pe_lc (own := [("part", 7)]) (g := gName 7) (by rfl) sc_.nd (k_list (K := K) (pv 2)) (blkOk_by (N := ["tree", "word", "some", "whole", "kind_here", "k", "truth", "part"]) (sc := defScope (top 68)) (by decide +kernel)) (fun _ _ _ _ _ => (pg_name (i := 7) sc_.nd rfl (by first | exact Or.inl rfl | exact Or.inr rfl))) (fun _ _ _ _ _ => pts_nil) (fun _ _ _ _ _ => (pe_ix (k_ixT (K := K)) (pv 7) pe_int (fun _ _ => rfl)))) (pe_op op_rep (pe_lst (pa_cons pe_str pa_nil)) (pe_callB (k_len (K := K)) (by rfl) T.z_len (by decide +kernel) (pa_cons (pv 2) pa_nil))) (nomark _)) (pss_cons (ps_set (i := 4) sc_.nd rfl (by first | exact Or.inl rfl | exact Or.inr rfl) (pe_own F__law_wanted hr (by first | decide | omega | (simp only [Nat.add_eq]; omega)) pass0 (pa_cons (pv 1) (pa_cons (pe_lc (own := [("part", 7)]) (g := gName 7) (by rfl) sc_.nd (k_list (K := K) (pv 2)) (blkOk_by (N := ["tree", "word", "some", "whole", "kind_here", "k", "truth", "part"]) (sc := defScope (top 68)) (by decide +kernel)) (fun _ _ _ _ _ => (pg_name (i := 7) sc_.nd rfl (by first | exact Or.inl rfl | exact Or.inr rfl))) (fun _ _ _ _ _ => pts_nil) (fun _ _ _ _ _ => (pe_ix (k_ixT (K := K)) (pv 7) pe_int (fun _ _ => rfl)))) pa_nil))))
      (pss_one (ps_if (pt_cmpR op_notN (pv 4) pe_non (nomark _)) (pss_one (ps_ret (pe_tup (pa_cons pe_str (pa_cons (pv 4) (pa_cons (pe_own F__law_value hr (by first | decide | omega | (simp only [Nat.add_eq]; omega)) pass0 (pa_cons (pv 3) (pa_cons pe_dnewK (pa_cons (pe_tup pa_nil) pa_nil)))) pa_nil)))))) pss_nil))) pss_nil)
      (pss_cons (ps_if (pt_cmpR (k_in (K := K)) (pv 1) (pe_lst (pa_cons pe_str (pa_cons pe_str pa_nil))) (by rfl)) (pss_one (ps_for PassesOwn.never rfl (pi_range1 (by rfl) T.z_range (pa_cons pe_int pa_nil)) (pg_name (i := 5) sc_.nd rfl (by first | exact Or.inl rfl | exact Or.inr rfl))
        (pss_cons (ps_set (i := 6) sc_.nd rfl (by first | exact Or.inl rfl | exact Or.inr rfl) (pe_ifExp (pt_cmpR (k_eqD (K := K) hr.units) (pe_slice (k_slA (K := K)) (pe_ix (k_ixL (K := K)) (pv 2) (pv 5) (fun _ _ => rfl)) po_none (po_some pe_int)) (pe_tup (pa_cons pe_str (pa_cons pe_str pa_nil))) (nomark _)) (pe_ix (k_ixT (K := K)) (pe_ix (k_ixL (K := K)) (pv 2) (pv 5) (fun _ _ => rfl)) pe_int (fun _ _ => rfl)) pe_non))
      (pss_one (ps_if (pt_cmpR op_notN (pv 6) pe_non (nomark _)) (pss_one (ps_ret (pe_ifExp (pt_cmpR op_eq (pv 6) (pe_cmpR op_eq (pv 1) pe_str (nomark _)) (nomark _)) (pe_ix (k_ixL (K := K)) (pv 2) (pe_op op_sub pe_int (pv 5)) (fun _ _ => rfl)) (pe_ix (k_ixL (K := K)) (pv 2) (pv 5) (fun _ _ => rfl))))) pss_nil))))) pss_nil)
      (pss_cons (ps_if (PW.pt (pw_and (pt_cmpR op_eq (pv 1) pe_str (nomark _)) (pw_and1 (pt_cmpR op_eq (pe_ix (k_ixT (K := K)) (pe_ix (k_ixL (K := K)) (pv 2) pe_int (fun _ _ => rfl)) pe_int (fun _ _ => rfl)) pe_str (nomark _))))) (pss_one (ps_ret (pe_ix (k_ixT (K := K)) (pe_ix (k_ixL (K := K)) (pv 2) pe_int (fun _ _ => rfl)) pe_int (fun _ _ => rfl)))) pss_nil)
      (pss_cons (ps_if (PW.pt (pw_and (pt_cmpR op_eq (pv 1) pe_str (nomark _)) (pw_and1 (pt_cmpR op_eq (pe_ix (k_ixT (K := K)) (pe_ix (k_ixL (K := K)) (pv 2) pe_int (fun _ _ => rfl)) pe_int (fun _ _ => rfl)) pe_str (nomark _))))) (pss_one (ps_ret (pe_ifExp (pt_cmpR op_isX (pe_ix (k_ixT (K := K)) (pe_ix (k_ixL (K := K)) (pv 2) pe_int (fun _ _ => rfl)) pe_int (fun _ _ => rfl)) pe_bl (nomark _)) (pe_ix (k_ixL (K := K)) (pv 2) pe_int (fun _ _ => rfl)) (pe_ix (k_ixL (K := K)) (pv 2) pe_int (fun _ _ => rfl))))) pss_nil)
      (pss_cons (ps_if (PW.pt (pw_and (pt_cmpR op_eq (pv 1) pe_str (nomark _)) (pw_and1 (pt_cmpR op_eq (pe_ix (k_ixT (K := K)) (pe_ix (k_ixL (K := K)) (pv 2) pe_int (fun _ _ => rfl)) pe_int (fun _ _ => rfl)) pe_str (nomark _))))) (pss_one (ps_ret (pe_ifExp (pt_cmpR op_isN (pe_ix (k_ixT (K := K)) (pe_ix (k_ixL (K := K)) (pv 2) pe_int (fun _ _ => rfl)) pe_int (fun _ _ => rfl)) pe_non (nomark _)) (pe_ix (k_ixL (K := K)) (pv 2) pe_int (fun _ _ => rfl)) (pe_ix (k_ixL (K := K)) (pv 2) pe_int (fun _ _ => rfl))))) pss_nil)
      (pss_one (ps_ret (pv 3))))))))))), ?_⟩
      have hda := hd
      obtain ⟨a, xs, rfl, hs, hx⟩ := Ex.open hd
      refine ⟨_, rfl, a, _, _, _, rfl, rfl, hs, atI_nat (j := 0) rfl, l2k 2 (by decide), fun t1 ht1 => ?_⟩
      have e1 := same_new ht1 (o := .lst [.str "col", .str "value"])
      refine ⟨t1, _, rfl, .inl (SqL.of upd_same), rfl, flat_strs ["col", "value"], _, rfl, ?_⟩
      show (if inV (.str e.word) ((["col", "value"] : List Str).map V.str) = true then _ else _)
      rw [inV_strs]
      by_cases ho : e.isOp = true
      · rw [decide_eq_false (fun c => by have := (op_ncv hsrc.1).mp c; rw [ho] at this; cases this)]
        have hs1 := same_t e1 hs
        rw [Ex.op_items ho] at hx
        refine iteF ⟨_, rfl, a, _, _, _, rfl, rfl, hs1, atI_nat (j := 0) rfl, _, rfl, 1, rfl, ?_⟩
        dsimp only [tNoPart]
        refine slA1 hs1 fun p hp => ?_
        have s0 := e1.trans (same_new hp (o := .tup xs))
        have hlx : xs.length = e.parts.length := by rw [hx.length, List.length_map]
        refine ⟨p, rfl, ⟨_, SqT.of upd_same⟩, fun Dd hD => lc_ok (walk_tup (K := K) (a := p) (xs := xs)) (fun i y H' => ∃ x0, e.parts[i]? = some x0 ∧ Da K H' y (foldE x0).d) hD (by rw [hlx]; exact Nat.lt_of_le_of_lt e.parts_le (by decide)) (fun H1 e1 => same_t e1 (SqT.of upd_same)) (fun i y H H' _ e' ⟨x0, h1, h2⟩ => ⟨x0, h1, Da.monoT e' (Ex.pure _ ((hsrc.part (List.mem_of_getElem? h1)).fold.wf)) h2⟩) (fun _ _ _ _ h => by rw [h.1]; exact Same.refl _) ?_ ?_⟩
        · rintro i x H1 H' hi s1 ⟨rfl, hxi⟩ Q' kk
          obtain ⟨d, hd1, hd2⟩ := DaL.get hx hxi
          rw [List.getElem?_map, Option.map_eq_some_iff] at hd1
          obtain ⟨x0, hx0, rfl⟩ := hd1
          have hmem := List.mem_of_getElem? hx0
          have hlev := Ex.level_part hmem
          exact ⟨rfl, _, rfl, x, x0, rfl, hd2.mono (s0.trans s1), hsrc.part hmem, by omega, fun y H2 e2 hy => kk _ _ e2 ⟨x0, hx0, hy⟩⟩
        · intro H1 acc s1 hacc hla hra
          have s01 := s0.trans s1
          have hdl : DaL K H1 acc ((foldP e).parts.map Ex.d) := by
            rw [foldP_parts, List.map_map]
            refine list_of (R := fun _ _ _ => True) (by rw [hla, hlx, List.length_map]) fun i y hy => ?_
            obtain ⟨x0, h1, h2⟩ := hra i y hy
            exact ⟨_, by rw [List.getElem?_map, h1]; rfl, h2⟩
          have g4 : G4 (foldP e) := hsrc.foldP ho
          have ho2 := foldP_op ho
          have hwd := foldP_word e
          have q1 : ∀ x H', Same H1 H' → Da K H' x (opE (foldP e)).d → Q x H' := fun x H' e' h => q x H' (s01.trans e') (by rw [fold_op ho]; exact h)
          rw [← hwd]
          generalize foldP e = e2 at hdl g4 ho2 q1 ⊢
          have hal : acc.length = e2.parts.length := by rw [hdl.length, List.length_map]
          have hpl := e2.parts_le
          have hlt : acc.length < sizeLine := by rw [hal]; exact Nat.lt_of_le_of_lt hpl (by decide)
          refine ⟨_, _, rfl, ?_⟩
          change tSeq _ _ _ [some (.ref a), some (.str e2.word), some (.ref Dd), none, none, none, none, none] _
          refine ⟨_, rfl, l2k 1 (by decide), fun t2 ht2 => ⟨_, rfl, Dd, acc, rfl, .inl ⟨SqL.of ((same_new ht2) _ _ hacc), fun l3 hl3 => ?_⟩⟩⟩
          have s2 := (same_new ht2 (o := .tup [.str e2.word])).trans (same_new hl3 (o := .tup acc))
          refine catA_go (same_t (same_new hl3) (SqT.of upd_same)) (SqT.of upd_same) (by show 1 + acc.length ≤ _; have := sizeLine_eq; omega) fun pw Hw ew hpw => ?_
          have s3 := s2.trans ew
          have q2 : ∀ x H', Same Hw H' → Da K H' x (opE e2).d → Q x H' := fun x H' e' h => q1 x H' (s3.trans e') h
          have haccw : Hw Dd = some (.lst acc) := s3 _ _ hacc
          have hdw : DaL K Hw acc (e2.parts.map Ex.d) := DaL.mono s3 hdl
          have hwhole : Da K Hw (.ref pw) e2.d := by
            rw [Ex.op_d ho2]
            exact .tup hpw (.cons (.str _ (Nat.le_trans (Ex.word_len g4.wf) (by decide))) hdw)
          clear hpw s3 s2 q1 hdl hacc hra hla
          change tSeq _ _ _ [some (.ref a), some (.str e2.word), some (.ref Dd), some (.ref pw), none, none, none, none] _
          have gpart : ∀ {x0 : Ex} {i : Nat}, e2.parts[i]? = some x0 → G4 x0 := fun h => g4.part (List.mem_of_getElem? h)
          -- the words of the parts
          refine ⟨_, rfl, Dd, rfl, ⟨_, SqL.of haccw⟩, fun D2 hD2 => lc_ok (walk_list (K := K) (a := Dd) (xs := acc)) (fun i y _ => ∃ x0, e2.parts[i]? = some x0 ∧ y = .str x0.word) hD2 hlt (fun H5 e => Same.seq e (SqL.of haccw)) (fun _ _ _ _ _ _ h => h) (fun _ _ _ _ h => by rw [h.1]; exact Same.refl _) ?_ ?_⟩
          · rintro i x H2 H' hi s2 ⟨rfl, hxi⟩ Q' kk
            obtain ⟨d, hd1, hd2⟩ := DaL.get hdw hxi
            rw [List.getElem?_map, Option.map_eq_some_iff] at hd1
            obtain ⟨x0, hx0, rfl⟩ := hd1
            obtain ⟨a3, us, rfl, hs3, hu⟩ := Ex.open hd2
            exact ⟨rfl, _, rfl, a3, _, _, _, rfl, rfl, same_t s2 hs3, atI_nat (j := 0) rfl, kk _ _ (Same.refl _) ⟨x0, hx0, rfl⟩⟩
          · intro H2 acc2 s2 hacc2 hla2 hra2
            have ea : acc2 = (e2.parts.map Ex.word).map V.str := by
              rw [List.map_map]
              exact map_of (by rw [hla2, hal]) hra2
            subst ea
            refine ⟨l2k 1 (by decide), fun l4 hl4 => ?_⟩
            have s4 := same_new hl4 (o := .lst [.str "value"])
            have haccw4 := (s2.trans s4) _ _ haccw
            refine ⟨_, rfl, Dd, acc, rfl, .inl (SqL.of haccw4), l4, _, _, rfl, rfl, upd_same, by omega, by omega, ?_, fun l5 hl5 => ?_⟩
            · rw [hal, Int.toNat_natCast]
              exact Nat.le_trans (Nat.mul_le_mul_left 1 hpl) (by decide)
            have s5 := same_new hl5 (o := .lst (List.replicate (((acc.length : Nat) : Int)).toNat [V.str "value"]).flatten)
            have s25 := (s2.trans s4).trans s5
            have wfp : ∀ x ∈ e2.parts, x.wf = true := fun x hx => (g4.part hx).wf
            have d1 : Da K _ (.ref D2) (.list ((e2.parts.map Ex.word).map PyData.str)) := .lst (SqL.of ((s4.trans s5) _ _ hacc2)) (da_strs fun z hz => by
              obtain ⟨x, hx, rfl⟩ := List.mem_map.mp hz
              exact Nat.le_trans (Ex.word_len (wfp x hx)) (by decide))
            refine eqD_go d1 (e := .list ((List.replicate e2.parts.length ("value" : Str)).map PyData.str)) (.lst (SqL.of (by rw [upd_same, hal, rep_word])) (da_strs fun z hz => by rw [List.eq_of_mem_replicate hz]; decide +kernel)) (shaped_strs fun z hz => by
              obtain ⟨x, hx, rfl⟩ := List.mem_map.mp hz
              exact Ex.word_ok (wfp x hx)) (shaped_strs fun z hz => by rw [List.eq_of_mem_replicate hz]; decide +kernel) ⟨_, rfl, ?_⟩
            rw [eqv_strs, words_const wfp]
            clear d1 hacc2 hla2 hra2
            have haccB := s25 _ _ haccw
            have hdB := DaL.mono s25 hdw
            have hwB := hwhole.mono s25
            have qB : ∀ x H', Same _ H' → Da K H' x (opE e2).d → Q x H' := fun x H' e' h => q2 x H' (s25.trans e') h
            generalize hHB : upd (upd H2 l4 (.lst [.str "value"])) l5 (.lst (List.replicate (((acc.length : Nat) : Int)).toNat [V.str "value"]).flatten) = HB at haccB hdB hwB qB ⊢
            clear hHB s25 s5 s4 s2 hdw haccw hwhole q2 haccw4
            by_cases hc : e2.parts.all constE = true
            · rw [hc]
              have cx : ∀ {x0 : Ex} {i : Nat}, e2.parts[i]? = some x0 → x0 = .val (vkE x0) (vvE x0) ∧ Ok (vkE x0) 40 (vvE x0) := fun h => const_ok (gpart h) (List.all_eq_true.mp hc _ (List.mem_of_getElem? h))
              refine iteT ⟨_, rfl, _, rfl, Dd, rfl, ⟨_, SqL.of haccB⟩, fun D3 hD3 => lc_ok (walk_list (K := K) (a := Dd) (xs := acc)) (fun i y _ => ∃ x0, e2.parts[i]? = some x0 ∧ y = .str (vkE x0)) hD3 hlt (fun H5 e => Same.seq e (SqL.of haccB)) (fun _ _ _ _ _ _ h => h) (fun _ _ _ _ h => by rw [h.1]; exact Same.refl _) ?_ ?_⟩
              · rintro i x H3 H' hi s3 ⟨rfl, hxi⟩ Q' kk
                obtain ⟨d, hd1, hd2⟩ := DaL.get hdB hxi
                rw [List.getElem?_map, Option.map_eq_some_iff] at hd1
                obtain ⟨x0, hx0, rfl⟩ := hd1
                rw [(cx hx0).1] at hd2
                obtain ⟨a3, us, rfl, hs3, hu⟩ := hd2.tupI
                obtain ⟨u1, us1, rfl, hu1, hu⟩ := hu.consI
                obtain ⟨u2, us2, rfl, hu2, hu⟩ := hu.consI
                cases hu2.strI
                exact ⟨rfl, _, rfl, a3, _, _, _, rfl, rfl, same_t s3 hs3, atI_nat (j := 1) rfl, kk _ _ (Same.refl _) ⟨x0, hx0, rfl⟩⟩
              · intro H3 acc3 s3 hacc3 hla3 hra3
                have ea3 : acc3 = (e2.parts.map vkE).map V.str := by
                  rw [List.map_map]
                  exact map_of (by rw [hla3, hal]) hra3
                refine ⟨e2.word, D3, e2.parts.map vkE, rfl, by rw [hacc3, ea3], kinds_ok g4 hc, arity g4.wf ho2, fun H5 e5 => ?_⟩
                rw [← kindBT g4.wf ho2]
                have s35 := s3.trans e5
                have hacc5 := s35 _ _ haccB
                have hd5 := DaL.mono s35 hdB
                have hw5 := hwB.mono s35
                clear hra3 hla3 hacc3
                cases hk : kindB e2.word (e2.parts.map vkE) with
                | some k =>
                  have hop : opE e2 = .val k (valB e2.word (e2.parts.map vvE)) := by unfold opE; rw [if_pos hc, hk]
                  rw [hop] at qB
                  refine ⟨_, rfl, rfl, _, rfl, iteT ⟨_, rfl, _, rfl, fun pd hpd => ⟨l2k 0 (by decide), fun pt hpt => ?_⟩⟩⟩
                  have s6 := (same_new hpd (o := .dK [])).trans (same_new hpt (o := .tup []))
                  refine ⟨.ref pw, .ref pd, .ref pt, e2, rfl, hw5.mono s6, g4, ho2, hc, ⟨k, hk⟩, fun H6 e6 => ⟨l2k 3 (by decide), fun p3 hp3 => ?_⟩⟩
                  have s37 := (s35.trans s6).trans (e6.trans (same_new hp3 (o := .tup [.str "value", .str k, toV (valB e2.word (e2.parts.map vvE))])))
                  have gw : (Ex.val k (valB e2.word (e2.parts.map vvE))).wf = true := by
                    rw [← hop]
                    exact opE_wf g4 ho2
                  simp only [Ex.wf, Bool.and_eq_true] at gw
                  exact qB _ _ s37 (.tup (SqT.of upd_same) (.cons (.str _ (by decide +kernel)) (.cons (.str _ (kind_ok gw.1).1) (.cons (flat_da gw.2.2) .nil))))
                | none =>
                  have hcut : opE e2 = cutE e2 := by unfold opE; rw [if_pos hc, hk]
                  have q5 : ∀ x H', Same H5 H' → Da K H' x (cutE e2).d → Q x H' := fun x H' e' h => qB x H' (s35.trans e') (by rw [hcut]; exact h)
                  refine ⟨_, rfl, rfl, _, rfl, iteF ?_⟩
                  clear hcut hk qB hc
                  cases e2 with
                  | col n => cases ho2
                  | val k v => cases ho2
                  | one z x =>
                    obtain ⟨xv, ws1, rfl, hxv, hn⟩ := hd5.consI
                    cases hn.nilI
                    have gx : G4 x := g4.part (by show x ∈ [x]; simp)
                    have hz : z ∈ onesL := by
                      have := g4.wf
                      simp only [Ex.wf, Bool.and_eq_true] at this
                      simpa using this.1
                    have hzn : z ≠ "and" ∧ z ≠ "or" ∧ z ≠ "if" ∧ z ≠ "else" := by
                      have : (onesL.all fun z => !(z == "and") && (!(z == "or") && (!(z == "if") && !(z == "else")))) = true := by decide +kernel
                      have := List.all_eq_true.mp this z hz
                      simpa using this
                    obtain ⟨a2, ys, rfl, hs2, hy⟩ := Ex.open hxv
                    refine ⟨_, rfl, l2k 2 (by decide), fun t9 ht9 => ?_⟩
                    have e9 := same_new ht9 (o := .lst [.str "and", .str "or"])
                    refine ⟨t9, _, rfl, .inl (SqL.of upd_same), rfl, flat_strs ["and", "or"], _, rfl, ?_⟩
                    show (if inV (.str z) ((["and", "or"] : List Str).map V.str) = true then _ else _)
                    rw [inV_strs, decide_eq_false (by simp [hzn.1, hzn.2.1])]
                    have hq9 := SqL.of (K := K) (e9 _ _ hacc5)
                    have hs29 := same_t e9 hs2
                    have hw9 := hw5.mono e9
                    refine iteF ⟨_, rfl, rfl, _, rfl, ?_⟩
                    by_cases hzn1 : z = "not"
                    · subst hzn1
                      refine goT rfl ⟨_, rfl, Dd, _, _, _, rfl, rfl, hq9, atI_nat (j := 0) rfl, a2, _, _, _, rfl, rfl, hs29, atI_nat (j := 0) rfl, rfl, _, rfl, ?_⟩
                      by_cases hw2 : x.word = "not"
                      · refine goT hw2 ?_
                        rw [cut_not, notE_pos hw2] at q5
                        cases x with
                        | col n => exact absurd hw2 (by show ¬ ("col" : Str) = "not"; decide +kernel)
                        | val k v => exact absurd hw2 (by show ¬ ("value" : Str) = "not"; decide +kernel)
                        | ife x y z => exact absurd hw2 (by show ¬ ("if" : Str) = "not"; decide +kernel)
                        | two z2 x y =>
                          exfalso
                          have := gx.wf
                          simp only [Ex.wf, Bool.and_eq_true] at this
                          have hm : z2 ∈ twosL := by simpa using this.1
                          rw [show z2 = "not" from hw2] at hm
                          exact absurd hm (by decide +kernel)
                        | one z2 y =>
                          obtain ⟨yv, ys1, rfl, hyv, hn⟩ := hy.consI
                          cases hn.nilI
                          exact ⟨_, rfl, Dd, _, _, _, rfl, rfl, hq9, atI_nat (j := 0) rfl, a2, _, _, _, rfl, rfl, hs29, atI_nat (j := 1) rfl, q5 _ _ e9 (hyv.mono e9)⟩
                      · rw [cut_not, notE_neg hw2] at q5
                        refine goF hw2 ⟨_, rfl, rfl, _, rfl, goF hzn.2.2.1 ⟨_, rfl, rfl, _, rfl, goF hzn.2.2.2 ⟨_, rfl, q5 _ _ e9 hw9⟩⟩⟩
                    · rw [cut_one hzn1] at q5
                      exact goF hzn1 ⟨_, rfl, rfl, _, rfl, goF hzn.2.2.1 ⟨_, rfl, rfl, _, rfl, goF hzn.2.2.2 ⟨_, rfl, q5 _ _ e9 hw9⟩⟩⟩
                  | two z x y =>
                    obtain ⟨xv, ws1, rfl, hxv, hn1⟩ := hd5.consI
                    obtain ⟨yv, ws2, rfl, hyv, hn⟩ := hn1.consI
                    cases hn.nilI
                    have gx : G4 x := g4.part (List.mem_cons_self ..)
                    have gy : G4 y := g4.part (by show y ∈ [x, y]; simp)
                    have hz : z ∈ twosL := by
                      have := g4.wf
                      simp only [Ex.wf, Bool.and_eq_true] at this
                      simpa using this.1
                    have hzn : z ≠ "not" ∧ z ≠ "if" := by
                      have : (twosL.all fun z => !(z == "not") && !(z == "if")) = true := by decide +kernel
                      have := List.all_eq_true.mp this z hz
                      simpa using this
                    refine ⟨_, rfl, l2k 2 (by decide), fun t9 ht9 => ?_⟩
                    have e9 := same_new ht9 (o := .lst [.str "and", .str "or"])
                    refine ⟨t9, _, rfl, .inl (SqL.of upd_same), rfl, flat_strs ["and", "or"], _, rfl, ?_⟩
                    show (if inV (.str z) ((["and", "or"] : List Str).map V.str) = true then _ else _)
                    rw [inV_strs]
                    have hacc9 := e9 _ _ hacc5
                    have hq9 := SqL.of (K := K) hacc9
                    have hxv9 := hxv.mono e9
                    have hyv9 := hyv.mono e9
                    have hw9 := hw5.mono e9
                    have q9 := fun x H' e => q5 x H' (e9.trans e)
                    clear q5 hw5 hxv hyv hd5 hacc5 ht9
                    generalize hH9 : upd H5 t9 (.lst [.str "and", .str "or"]) = H9 at *
                    by_cases hao : z = "and" ∨ z = "or"
                    · rw [decide_eq_true (by simpa using hao)]
                      rw [show cutE (.two z x y) = pairE z x y from if_pos hao] at q9
                      have hand : decide (z = "and") = !decide (z = "or") := by rcases hao with rfl | rfl <;> decide +kernel
                      refine iteT ⟨2, rfl, by decide, by decide, for_it (walk_range (lo := 0) (n := 2)) (fun i σ H' => Same H9 H' ∧ (∃ o4 o5 o6, σ = [some (.ref a), some (.str z), some (.ref Dd), some (.ref pw), o4, o5, o6, none]) ∧ (1 ≤ i → truthE x = none) ∧ (2 ≤ i → truthE y = none)) ⟨Same.refl _, ⟨_, _, _, rfl⟩, fun h => absurd h (by decide), fun h => absurd h (by decide)⟩ (fun _ _ _ _ _ => trivial) ?_ ?_⟩
                      · rintro i j σ H1' H2' hi ⟨e1', ⟨o4, o5, o6, rfl⟩, t1', t2'⟩ ⟨rfl, rfl⟩
                        obtain ⟨c, r, cv, rv, i2, hc1, hr1, gc, gr, hic, hir, hiv, hp, hnn⟩ : ∃ (c r : Ex) (cv rv : V) (i2 : Nat), Da K H9 cv c.d ∧ Da K H9 rv r.d ∧ G4 c ∧ G4 r ∧ atI [xv, yv] ((0 : Int) + (i : Nat)) = some cv ∧ atI [xv, yv] (i2 : Int) = some rv ∧ (1 : Int) - ((0 : Int) + (i : Nat)) = (i2 : Int) ∧ (∀ t, truthE c = some t → pairE z x y = if t = decide (z = "or") then c else r) ∧ (truthE c = none → (1 ≤ i + 1 → truthE x = none) ∧ (2 ≤ i + 1 → truthE y = none)) := by
                          match i, hi with
                          | 0, _ => exact ⟨x, y, xv, yv, 1, hxv9, hyv9, gx, gy, rfl, rfl, rfl, fun t h => pairE_a h, fun h => ⟨fun _ => h, fun h2 => absurd h2 (by decide)⟩⟩
                          | 1, _ => exact ⟨y, x, yv, xv, 0, hyv9, hxv9, gy, gx, rfl, rfl, rfl, fun t h => pairE_b (t1' (by decide)) h, fun h => ⟨fun _ => t1' (by decide), fun _ => h⟩⟩
                        have hq1' := Same.seq e1' hq9
                        obtain ⟨ac, yc, rfl, hsc, hyc⟩ := Ex.open (hc1.mono e1')
                        refine ⟨_, rfl, _, rfl, Dd, _, _, _, rfl, rfl, hq1', hic, ?_⟩
                        dsimp only [tNoPart]
                        refine ⟨2, rfl, ?_⟩
                        refine slA2 hsc fun p2 H3' e3' hp2 => ?_
                        obtain ⟨dd, hdd, hsd, heq⟩ := Ex.head2 hsc hyc e3' hp2 gc
                        refine ⟨l2k 2 (by decide), fun t8 ht8 => ?_⟩
                        have e8 := same_new ht8 (o := .tup [.str "value", .str "bool"])
                        have e38 := e3'.trans e8
                        refine eqD_go (hdd.mono e8) (e := .tuple [.str "value", .str "bool"]) (.tup (SqT.of upd_same) (.cons (.str _ (by decide +kernel)) (.cons (.str _ (by decide +kernel)) .nil))) hsd (by decide +kernel) ⟨_, rfl, ?_⟩
                        rw [heq]
                        have hq8 := Same.seq e38 hq1'
                        have hsc8 := same_t e38 hsc
                        have e18 := e1'.trans e38
                        cases ht : truthE c with
                        | some t =>
                          obtain rfl := truth_some gc ht
                          obtain ⟨u2, us2, rfl, hu2, hu⟩ := hyc.consI
                          obtain ⟨u3, us3, rfl, hu3, hu⟩ := hu.consI
                          cases hu.nilI
                          cases da_toV hu3 rfl
                          rw [show (constE (.val "bool" (.bool t)) && (vkE (.val "bool" (.bool t)) == "bool")) = true by show (true && (("bool" : Str) == "bool")) = true; decide +kernel]
                          refine iteT ⟨_, rfl, _, rfl, Dd, _, _, _, rfl, rfl, hq8, hic, ac, _, _, _, rfl, rfl, hsc8, atI_nat (j := 2) rfl, ?_⟩
                          refine ⟨_, rfl, rfl, _, rfl, iteT ⟨_, rfl, _, rfl, rfl, rfl, _, rfl, ?_⟩⟩
                          rw [show decide (V.str z = V.str "and") = decide (z = "and") from all_iff ⟨fun h => V.str.inj h, fun h => congrArg V.str h⟩, hand]
                          have hp2 := hp t ht
                          by_cases hto : t = decide (z = "or")
                          · rw [if_pos hto] at hp2
                            rw [show decide (toV (.bool t) = V.bl (!decide (z = "or"))) = false from decide_eq_false (fun c => by have h := V.bl.inj c; rw [hto] at h; generalize decide (z = "or") = b at h; cases b <;> cases h)]
                            refine iteF ⟨_, rfl, _, rfl, Dd, _, _, _, rfl, rfl, hq8, hic, q9 _ _ e18 ?_⟩
                            rw [hp2]; exact hc1.mono e18
                          · rw [if_neg hto] at hp2
                            rw [show decide (toV (.bool t) = V.bl (!decide (z = "or"))) = true from decide_eq_true (by show V.bl t = _; congr 1; revert hto; cases decide (z = "or") <;> cases t <;> simp)]
                            refine iteT ⟨_, rfl, _, rfl, _, _, rfl, rfl, Dd, _, _, _, rfl, rfl, hq8, by rw [hiv]; exact hir, q9 _ _ e18 ?_⟩
                            rw [hp2]; exact hr1.mono e18
                        | none =>
                          have nx : (constE c && (vkE c == "bool")) = true → toV (vvE c) = .non := truth_none gc ht
                          by_cases hcv : (constE c && (vkE c == "bool")) = true
                          · rw [hcv]
                            have hcc : constE c = true := by rw [Bool.and_eq_true] at hcv; exact hcv.1
                            obtain ⟨hxe, hok⟩ := const_ok gc hcc
                            rw [hxe] at hyc
                            obtain ⟨u2, us2, rfl, hu2, hu⟩ := hyc.consI
                            obtain ⟨u3, us3, rfl, hu3, hu⟩ := hu.consI
                            cases hu.nilI
                            have hu4 := da_toV hu3 (hok.flat (by decide))
                            rw [nx hcv] at hu4
                            subst hu4
                            refine iteT ⟨_, rfl, _, rfl, Dd, _, _, _, rfl, rfl, hq8, hic, ac, _, _, _, rfl, rfl, hsc8, atI_nat (j := 2) rfl, ?_⟩
                            exact ⟨_, rfl, rfl, _, rfl, iteF ⟨e18, ⟨_, _, _, rfl⟩, (hnn ht).1, (hnn ht).2⟩⟩
                          · rw [show (constE c && (vkE c == "bool")) = false by simpa using hcv]
                            exact iteF ⟨_, rfl, rfl, _, rfl, iteF ⟨e18, ⟨_, _, _, rfl⟩, (hnn ht).1, (hnn ht).2⟩⟩
                      · rintro σ H1' ⟨e1', ⟨o4, o5, o6, rfl⟩, t1', t2'⟩
                        rw [pairE_none (t1' (by decide)) (t2' (by decide))] at q9
                        exact ⟨_, rfl, rfl, _, rfl, goF hzn.1 ⟨_, rfl, rfl, _, rfl, goF hzn.2 ⟨_, rfl, rfl, _, rfl, goF (by rcases hao with rfl | rfl <;> decide +kernel) ⟨_, rfl, q9 _ _ e1' (hw9.mono e1')⟩⟩⟩⟩
                    · rw [decide_eq_false (by simpa using hao)]
                      refine iteF ⟨_, rfl, rfl, _, rfl, goF hzn.1 ⟨_, rfl, rfl, _, rfl, goF hzn.2 ⟨_, rfl, rfl, _, rfl, ?_⟩⟩⟩
                      by_cases hel : z = "else"
                      · subst hel
                        obtain ⟨a2, us, rfl, hs2, hu⟩ := Ex.open hxv9
                        refine goT rfl ⟨_, rfl, Dd, _, _, _, rfl, rfl, hq9, atI_nat (j := 0) rfl, a2, _, _, _, rfl, rfl, hs2, atI_nat (j := 0) rfl, rfl, _, rfl, ?_⟩
                        rw [word_val gx.wf]
                        by_cases hc : constE x = true
                        · rw [hc]
                          rw [cut_two hao, if_pos ⟨rfl, hc⟩] at q9
                          obtain ⟨hxe, hok⟩ := const_ok gx hc
                          rw [hxe] at hu hs2
                          obtain ⟨u2, us2, rfl, hu2, hu⟩ := hu.consI
                          obtain ⟨u3, us3, rfl, hu3, hu⟩ := hu.consI
                          cases hu.nilI
                          cases da_toV hu3 (hok.flat (by decide))
                          refine iteT ⟨_, rfl, Dd, _, _, _, rfl, rfl, hq9, atI_nat (j := 0) rfl, a2, _, _, _, rfl, rfl, hs2, atI_nat (j := 2) rfl, rfl, _, rfl, ?_⟩
                          rw [no_iff hok]
                          by_cases hno : isNo (vvE x) = true
                          · rw [hno]
                            rw [if_pos hno] at q9
                            exact iteT ⟨_, rfl, Dd, _, _, _, rfl, rfl, hq9, atI_nat (j := 1) rfl, q9 _ _ (Same.refl _) hyv9⟩
                          · rw [show isNo (vvE x) = false by simpa using hno]
                            rw [if_neg hno] at q9
                            exact iteF ⟨_, rfl, Dd, _, _, _, rfl, rfl, hq9, atI_nat (j := 0) rfl, q9 _ _ (Same.refl _) hxv9⟩
                        · rw [show constE x = false by simpa using hc]
                          rw [cut_two hao, if_neg (fun c => hc c.2)] at q9
                          exact iteF ⟨_, rfl, q9 _ _ (Same.refl _) hw9⟩
                      · rw [cut_two hao, if_neg (fun c => hel c.1)] at q9
                        exact goF hel ⟨_, rfl, q9 _ _ (Same.refl _) hw9⟩
                  | ife x y z =>
                    obtain ⟨xv, ws1, rfl, hxv, hn1⟩ := hd5.consI
                    obtain ⟨yv, ws2, rfl, hyv, hn2⟩ := hn1.consI
                    obtain ⟨zv, ws3, rfl, hzv, hn⟩ := hn2.consI
                    cases hn.nilI
                    have gx : G4 x := g4.part (List.mem_cons_self ..)
                    refine ⟨_, rfl, l2k 2 (by decide), fun t9 ht9 => ?_⟩
                    have e9 := same_new ht9 (o := .lst [.str "and", .str "or"])
                    refine ⟨t9, _, rfl, .inl (SqL.of upd_same), rfl, flat_strs ["and", "or"], _, rfl, ?_⟩
                    show (if inV (.str "if") ((["and", "or"] : List Str).map V.str) = true then _ else _)
                    rw [inV_strs, decide_eq_false (by decide +kernel)]
                    have hq9 := SqL.of (K := K) (e9 _ _ hacc5)
                    obtain ⟨a2, us, rfl, hs2, hu⟩ := Ex.open (hxv.mono e9)
                    refine iteF ⟨_, rfl, rfl, _, rfl, goF (by show ¬ ("if" : Str) = "not"; decide +kernel) ⟨_, rfl, rfl, _, rfl, goT rfl ⟨_, rfl, Dd, _, _, _, rfl, rfl, hq9, atI_nat (j := 0) rfl, a2, _, _, _, rfl, rfl, hs2, atI_nat (j := 0) rfl, rfl, _, rfl, ?_⟩⟩⟩
                    rw [word_val gx.wf]
                    by_cases hc : constE x = true
                    · rw [hc]
                      obtain ⟨hxe, hok⟩ := const_ok gx hc
                      rw [hxe] at hu hs2
                      obtain ⟨u2, us2, rfl, hu2, hu⟩ := hu.consI
                      obtain ⟨u3, us3, rfl, hu3, hu⟩ := hu.consI
                      cases hu.nilI
                      cases da_toV hu3 (hok.flat (by decide))
                      rw [show cutE (.ife x y z) = if isB true (vvE x) = true then y else z from if_pos hc] at q5
                      refine iteT ⟨_, rfl, Dd, _, _, _, rfl, rfl, hq9, atI_nat (j := 0) rfl, a2, _, _, _, rfl, rfl, hs2, atI_nat (j := 2) rfl, true, rfl, toV_flat _, _, rfl, ?_⟩
                      rw [toV_bl]
                      by_cases hb : isB true (vvE x) = true
                      · rw [hb]
                        rw [if_pos hb] at q5
                        exact iteT ⟨_, rfl, Dd, _, _, _, rfl, rfl, hq9, atI_nat (j := 1) rfl, q5 _ _ e9 (hyv.mono e9)⟩
                      · rw [show isB true (vvE x) = false by simpa using hb]
                        rw [if_neg hb] at q5
                        exact iteF ⟨_, rfl, Dd, _, _, _, rfl, rfl, hq9, atI_nat (j := 2) rfl, q5 _ _ e9 (hzv.mono e9)⟩
                    · rw [show constE x = false by simpa using hc]
                      rw [cut_ife hc] at q5
                      exact iteF ⟨_, rfl, rfl, _, rfl, goF (by show ¬ ("if" : Str) = "else"; decide +kernel) ⟨_, rfl, q5 _ _ e9 (hw5.mono e9)⟩⟩
            · rw [show e2.parts.all constE = false by simpa using hc]
              have hcut : opE e2 = cutE e2 := by unfold opE; rw [if_neg hc]
              have q5 : ∀ x H', Same HB H' → Da K H' x (cutE e2).d → Q x H' := fun x H' e' h => qB x H' e' (by rw [hcut]; exact h)
              clear hcut qB hc
              have hacc5 := haccB
              have hd5 := hdB
              have hw5 := hwB
              clear haccB hdB hwB
              generalize HB = H5 at *
              refine iteF ?_
              cases e2 with
              | col n => cases ho2
              | val k v => cases ho2
              | one z x =>
                obtain ⟨xv, ws1, rfl, hxv, hn⟩ := hd5.consI
                cases hn.nilI
                have gx : G4 x := g4.part (by show x ∈ [x]; simp)
                have hz : z ∈ onesL := by
                  have := g4.wf
                  simp only [Ex.wf, Bool.and_eq_true] at this
                  simpa using this.1
                have hzn : z ≠ "and" ∧ z ≠ "or" ∧ z ≠ "if" ∧ z ≠ "else" := by
                  have : (onesL.all fun z => !(z == "and") && (!(z == "or") && (!(z == "if") && !(z == "else")))) = true := by decide +kernel
                  have := List.all_eq_true.mp this z hz
                  simpa using this
                obtain ⟨a2, ys, rfl, hs2, hy⟩ := Ex.open hxv
                refine ⟨_, rfl, l2k 2 (by decide), fun t9 ht9 => ?_⟩
                have e9 := same_new ht9 (o := .lst [.str "and", .str "or"])
                refine ⟨t9, _, rfl, .inl (SqL.of upd_same), rfl, flat_strs ["and", "or"], _, rfl, ?_⟩
                show (if inV (.str z) ((["and", "or"] : List Str).map V.str) = true then _ else _)
                rw [inV_strs, decide_eq_false (by simp [hzn.1, hzn.2.1])]
                have hq9 := SqL.of (K := K) (e9 _ _ hacc5)
                have hs29 := same_t e9 hs2
                have hw9 := hw5.mono e9
                refine iteF ⟨_, rfl, rfl, _, rfl, ?_⟩
                by_cases hzn1 : z = "not"
                · subst hzn1
                  refine goT rfl ⟨_, rfl, Dd, _, _, _, rfl, rfl, hq9, atI_nat (j := 0) rfl, a2, _, _, _, rfl, rfl, hs29, atI_nat (j := 0) rfl, rfl, _, rfl, ?_⟩
                  by_cases hw2 : x.word = "not"
                  · refine goT hw2 ?_
                    rw [cut_not, notE_pos hw2] at q5
                    cases x with
                    | col n => exact absurd hw2 (by show ¬ ("col" : Str) = "not"; decide +kernel)
                    | val k v => exact absurd hw2 (by show ¬ ("value" : Str) = "not"; decide +kernel)
                    | ife x y z => exact absurd hw2 (by show ¬ ("if" : Str) = "not"; decide +kernel)
                    | two z2 x y =>
                      exfalso
                      have := gx.wf
                      simp only [Ex.wf, Bool.and_eq_true] at this
                      have hm : z2 ∈ twosL := by simpa using this.1
                      rw [show z2 = "not" from hw2] at hm
                      exact absurd hm (by decide +kernel)
                    | one z2 y =>
                      obtain ⟨yv, ys1, rfl, hyv, hn⟩ := hy.consI
                      cases hn.nilI
                      exact ⟨_, rfl, Dd, _, _, _, rfl, rfl, hq9, atI_nat (j := 0) rfl, a2, _, _, _, rfl, rfl, hs29, atI_nat (j := 1) rfl, q5 _ _ e9 (hyv.mono e9)⟩
                  · rw [cut_not, notE_neg hw2] at q5
                    refine goF hw2 ⟨_, rfl, rfl, _, rfl, goF hzn.2.2.1 ⟨_, rfl, rfl, _, rfl, goF hzn.2.2.2 ⟨_, rfl, q5 _ _ e9 hw9⟩⟩⟩
                · rw [cut_one hzn1] at q5
                  exact goF hzn1 ⟨_, rfl, rfl, _, rfl, goF hzn.2.2.1 ⟨_, rfl, rfl, _, rfl, goF hzn.2.2.2 ⟨_, rfl, q5 _ _ e9 hw9⟩⟩⟩
              | two z x y =>
                obtain ⟨xv, ws1, rfl, hxv, hn1⟩ := hd5.consI
                obtain ⟨yv, ws2, rfl, hyv, hn⟩ := hn1.consI
                cases hn.nilI
                have gx : G4 x := g4.part (List.mem_cons_self ..)
                have gy : G4 y := g4.part (by show y ∈ [x, y]; simp)
                have hz : z ∈ twosL := by
                  have := g4.wf
                  simp only [Ex.wf, Bool.and_eq_true] at this
                  simpa using this.1
                have hzn : z ≠ "not" ∧ z ≠ "if" := by
                  have : (twosL.all fun z => !(z == "not") && !(z == "if")) = true := by decide +kernel
                  have := List.all_eq_true.mp this z hz
                  simpa using this
                refine ⟨_, rfl, l2k 2 (by decide), fun t9 ht9 => ?_⟩
                have e9 := same_new ht9 (o := .lst [.str "and", .str "or"])
                refine ⟨t9, _, rfl, .inl (SqL.of upd_same), rfl, flat_strs ["and", "or"], _, rfl, ?_⟩
                show (if inV (.str z) ((["and", "or"] : List Str).map V.str) = true then _ else _)
                rw [inV_strs]
                have hacc9 := e9 _ _ hacc5
                have hq9 := SqL.of (K := K) hacc9
                have hxv9 := hxv.mono e9
                have hyv9 := hyv.mono e9
                have hw9 := hw5.mono e9
                have q9 := fun x H' e => q5 x H' (e9.trans e)
                clear q5 hw5 hxv hyv hd5 hacc5 ht9
                generalize hH9 : upd H5 t9 (.lst [.str "and", .str "or"]) = H9 at *
                by_cases hao : z = "and" ∨ z = "or"
                · rw [decide_eq_true (by simpa using hao)]
                  rw [show cutE (.two z x y) = pairE z x y from if_pos hao] at q9
                  have hand : decide (z = "and") = !decide (z = "or") := by rcases hao with rfl | rfl <;> decide +kernel
                  refine iteT ⟨2, rfl, by decide, by decide, for_it (walk_range (lo := 0) (n := 2)) (fun i σ H' => Same H9 H' ∧ (∃ o4 o5 o6, σ = [some (.ref a), some (.str z), some (.ref Dd), some (.ref pw), o4, o5, o6, none]) ∧ (1 ≤ i → truthE x = none) ∧ (2 ≤ i → truthE y = none)) ⟨Same.refl _, ⟨_, _, _, rfl⟩, fun h => absurd h (by decide), fun h => absurd h (by decide)⟩ (fun _ _ _ _ _ => trivial) ?_ ?_⟩
                  · rintro i j σ H1' H2' hi ⟨e1', ⟨o4, o5, o6, rfl⟩, t1', t2'⟩ ⟨rfl, rfl⟩
                    obtain ⟨c, r, cv, rv, i2, hc1, hr1, gc, gr, hic, hir, hiv, hp, hnn⟩ : ∃ (c r : Ex) (cv rv : V) (i2 : Nat), Da K H9 cv c.d ∧ Da K H9 rv r.d ∧ G4 c ∧ G4 r ∧ atI [xv, yv] ((0 : Int) + (i : Nat)) = some cv ∧ atI [xv, yv] (i2 : Int) = some rv ∧ (1 : Int) - ((0 : Int) + (i : Nat)) = (i2 : Int) ∧ (∀ t, truthE c = some t → pairE z x y = if t = decide (z = "or") then c else r) ∧ (truthE c = none → (1 ≤ i + 1 → truthE x = none) ∧ (2 ≤ i + 1 → truthE y = none)) := by
                      match i, hi with
                      | 0, _ => exact ⟨x, y, xv, yv, 1, hxv9, hyv9, gx, gy, rfl, rfl, rfl, fun t h => pairE_a h, fun h => ⟨fun _ => h, fun h2 => absurd h2 (by decide)⟩⟩
                      | 1, _ => exact ⟨y, x, yv, xv, 0, hyv9, hxv9, gy, gx, rfl, rfl, rfl, fun t h => pairE_b (t1' (by decide)) h, fun h => ⟨fun _ => t1' (by decide), fun _ => h⟩⟩
                    have hq1' := Same.seq e1' hq9
                    obtain ⟨ac, yc, rfl, hsc, hyc⟩ := Ex.open (hc1.mono e1')
                    refine ⟨_, rfl, _, rfl, Dd, _, _, _, rfl, rfl, hq1', hic, ?_⟩
                    dsimp only [tNoPart]
                    refine ⟨2, rfl, ?_⟩
                    refine slA2 hsc fun p2 H3' e3' hp2 => ?_
                    obtain ⟨dd, hdd, hsd, heq⟩ := Ex.head2 hsc hyc e3' hp2 gc
                    refine ⟨l2k 2 (by decide), fun t8 ht8 => ?_⟩
                    have e8 := same_new ht8 (o := .tup [.str "value", .str "bool"])
                    have e38 := e3'.trans e8
                    refine eqD_go (hdd.mono e8) (e := .tuple [.str "value", .str "bool"]) (.tup (SqT.of upd_same) (.cons (.str _ (by decide +kernel)) (.cons (.str _ (by decide +kernel)) .nil))) hsd (by decide +kernel) ⟨_, rfl, ?_⟩
                    rw [heq]
                    have hq8 := Same.seq e38 hq1'
                    have hsc8 := same_t e38 hsc
                    have e18 := e1'.trans e38
                    cases ht : truthE c with
                    | some t =>
                      obtain rfl := truth_some gc ht
                      obtain ⟨u2, us2, rfl, hu2, hu⟩ := hyc.consI
                      obtain ⟨u3, us3, rfl, hu3, hu⟩ := hu.consI
                      cases hu.nilI
                      cases da_toV hu3 rfl
                      rw [show (constE (.val "bool" (.bool t)) && (vkE (.val "bool" (.bool t)) == "bool")) = true by show (true && (("bool" : Str) == "bool")) = true; decide +kernel]
                      refine iteT ⟨_, rfl, _, rfl, Dd, _, _, _, rfl, rfl, hq8, hic, ac, _, _, _, rfl, rfl, hsc8, atI_nat (j := 2) rfl, ?_⟩
                      refine ⟨_, rfl, rfl, _, rfl, iteT ⟨_, rfl, _, rfl, rfl, rfl, _, rfl, ?_⟩⟩
                      rw [show decide (V.str z = V.str "and") = decide (z = "and") from all_iff ⟨fun h => V.str.inj h, fun h => congrArg V.str h⟩, hand]
                      have hp2 := hp t ht
                      by_cases hto : t = decide (z = "or")
                      · rw [if_pos hto] at hp2
                        rw [show decide (toV (.bool t) = V.bl (!decide (z = "or"))) = false from decide_eq_false (fun c => by have h := V.bl.inj c; rw [hto] at h; generalize decide (z = "or") = b at h; cases b <;> cases h)]
                        refine iteF ⟨_, rfl, _, rfl, Dd, _, _, _, rfl, rfl, hq8, hic, q9 _ _ e18 ?_⟩
                        rw [hp2]; exact hc1.mono e18
                      · rw [if_neg hto] at hp2
                        rw [show decide (toV (.bool t) = V.bl (!decide (z = "or"))) = true from decide_eq_true (by show V.bl t = _; congr 1; revert hto; cases decide (z = "or") <;> cases t <;> simp)]
                        refine iteT ⟨_, rfl, _, rfl, _, _, rfl, rfl, Dd, _, _, _, rfl, rfl, hq8, by rw [hiv]; exact hir, q9 _ _ e18 ?_⟩
                        rw [hp2]; exact hr1.mono e18
                    | none =>
                      have nx : (constE c && (vkE c == "bool")) = true → toV (vvE c) = .non := truth_none gc ht
                      by_cases hcv : (constE c && (vkE c == "bool")) = true
                      · rw [hcv]
                        have hcc : constE c = true := by rw [Bool.and_eq_true] at hcv; exact hcv.1
                        obtain ⟨hxe, hok⟩ := const_ok gc hcc
                        rw [hxe] at hyc
                        obtain ⟨u2, us2, rfl, hu2, hu⟩ := hyc.consI
                        obtain ⟨u3, us3, rfl, hu3, hu⟩ := hu.consI
                        cases hu.nilI
                        have hu4 := da_toV hu3 (hok.flat (by decide))
                        rw [nx hcv] at hu4
                        subst hu4
                        refine iteT ⟨_, rfl, _, rfl, Dd, _, _, _, rfl, rfl, hq8, hic, ac, _, _, _, rfl, rfl, hsc8, atI_nat (j := 2) rfl, ?_⟩
                        exact ⟨_, rfl, rfl, _, rfl, iteF ⟨e18, ⟨_, _, _, rfl⟩, (hnn ht).1, (hnn ht).2⟩⟩
                      · rw [show (constE c && (vkE c == "bool")) = false by simpa using hcv]
                        exact iteF ⟨_, rfl, rfl, _, rfl, iteF ⟨e18, ⟨_, _, _, rfl⟩, (hnn ht).1, (hnn ht).2⟩⟩
                  · rintro σ H1' ⟨e1', ⟨o4, o5, o6, rfl⟩, t1', t2'⟩
                    rw [pairE_none (t1' (by decide)) (t2' (by decide))] at q9
                    exact ⟨_, rfl, rfl, _, rfl, goF hzn.1 ⟨_, rfl, rfl, _, rfl, goF hzn.2 ⟨_, rfl, rfl, _, rfl, goF (by rcases hao with rfl | rfl <;> decide +kernel) ⟨_, rfl, q9 _ _ e1' (hw9.mono e1')⟩⟩⟩⟩
                · rw [decide_eq_false (by simpa using hao)]
                  refine iteF ⟨_, rfl, rfl, _, rfl, goF hzn.1 ⟨_, rfl, rfl, _, rfl, goF hzn.2 ⟨_, rfl, rfl, _, rfl, ?_⟩⟩⟩
                  by_cases hel : z = "else"
                  · subst hel
                    obtain ⟨a2, us, rfl, hs2, hu⟩ := Ex.open hxv9
                    refine goT rfl ⟨_, rfl, Dd, _, _, _, rfl, rfl, hq9, atI_nat (j := 0) rfl, a2, _, _, _, rfl, rfl, hs2, atI_nat (j := 0) rfl, rfl, _, rfl, ?_⟩
                    rw [word_val gx.wf]
                    by_cases hc : constE x = true
                    · rw [hc]
                      rw [cut_two hao, if_pos ⟨rfl, hc⟩] at q9
                      obtain ⟨hxe, hok⟩ := const_ok gx hc
                      rw [hxe] at hu hs2
                      obtain ⟨u2, us2, rfl, hu2, hu⟩ := hu.consI
                      obtain ⟨u3, us3, rfl, hu3, hu⟩ := hu.consI
                      cases hu.nilI
                      cases da_toV hu3 (hok.flat (by decide))
                      refine iteT ⟨_, rfl, Dd, _, _, _, rfl, rfl, hq9, atI_nat (j := 0) rfl, a2, _, _, _, rfl, rfl, hs2, atI_nat (j := 2) rfl, rfl, _, rfl, ?_⟩
                      rw [no_iff hok]
                      by_cases hno : isNo (vvE x) = true
                      · rw [hno]
                        rw [if_pos hno] at q9
                        exact iteT ⟨_, rfl, Dd, _, _, _, rfl, rfl, hq9, atI_nat (j := 1) rfl, q9 _ _ (Same.refl _) hyv9⟩
                      · rw [show isNo (vvE x) = false by simpa using hno]
                        rw [if_neg hno] at q9
                        exact iteF ⟨_, rfl, Dd, _, _, _, rfl, rfl, hq9, atI_nat (j := 0) rfl, q9 _ _ (Same.refl _) hxv9⟩
                    · rw [show constE x = false by simpa using hc]
                      rw [cut_two hao, if_neg (fun c => hc c.2)] at q9
                      exact iteF ⟨_, rfl, q9 _ _ (Same.refl _) hw9⟩
                  · rw [cut_two hao, if_neg (fun c => hel c.1)] at q9
                    exact goF hel ⟨_, rfl, q9 _ _ (Same.refl _) hw9⟩
              | ife x y z =>
                obtain ⟨xv, ws1, rfl, hxv, hn1⟩ := hd5.consI
                obtain ⟨yv, ws2, rfl, hyv, hn2⟩ := hn1.consI
                obtain ⟨zv, ws3, rfl, hzv, hn⟩ := hn2.consI
                cases hn.nilI
                have gx : G4 x := g4.part (List.mem_cons_self ..)
                refine ⟨_, rfl, l2k 2 (by decide), fun t9 ht9 => ?_⟩
                have e9 := same_new ht9 (o := .lst [.str "and", .str "or"])
                refine ⟨t9, _, rfl, .inl (SqL.of upd_same), rfl, flat_strs ["and", "or"], _, rfl, ?_⟩
                show (if inV (.str "if") ((["and", "or"] : List Str).map V.str) = true then _ else _)
                rw [inV_strs, decide_eq_false (by decide +kernel)]
                have hq9 := SqL.of (K := K) (e9 _ _ hacc5)
                obtain ⟨a2, us, rfl, hs2, hu⟩ := Ex.open (hxv.mono e9)
                refine iteF ⟨_, rfl, rfl, _, rfl, goF (by show ¬ ("if" : Str) = "not"; decide +kernel) ⟨_, rfl, rfl, _, rfl, goT rfl ⟨_, rfl, Dd, _, _, _, rfl, rfl, hq9, atI_nat (j := 0) rfl, a2, _, _, _, rfl, rfl, hs2, atI_nat (j := 0) rfl, rfl, _, rfl, ?_⟩⟩⟩
                rw [word_val gx.wf]
                by_cases hc : constE x = true
                · rw [hc]
                  obtain ⟨hxe, hok⟩ := const_ok gx hc
                  rw [hxe] at hu hs2
                  obtain ⟨u2, us2, rfl, hu2, hu⟩ := hu.consI
                  obtain ⟨u3, us3, rfl, hu3, hu⟩ := hu.consI
                  cases hu.nilI
                  cases da_toV hu3 (hok.flat (by decide))
                  rw [show cutE (.ife x y z) = if isB true (vvE x) = true then y else z from if_pos hc] at q5
                  refine iteT ⟨_, rfl, Dd, _, _, _, rfl, rfl, hq9, atI_nat (j := 0) rfl, a2, _, _, _, rfl, rfl, hs2, atI_nat (j := 2) rfl, true, rfl, toV_flat _, _, rfl, ?_⟩
                  rw [toV_bl]
                  by_cases hb : isB true (vvE x) = true
                  · rw [hb]
                    rw [if_pos hb] at q5
                    exact iteT ⟨_, rfl, Dd, _, _, _, rfl, rfl, hq9, atI_nat (j := 1) rfl, q5 _ _ e9 (hyv.mono e9)⟩
                  · rw [show isB true (vvE x) = false by simpa using hb]
                    rw [if_neg hb] at q5
                    exact iteF ⟨_, rfl, Dd, _, _, _, rfl, rfl, hq9, atI_nat (j := 2) rfl, q5 _ _ e9 (hzv.mono e9)⟩
                · rw [show constE x = false by simpa using hc]
                  rw [cut_ife hc] at q5
                  exact iteF ⟨_, rfl, rfl, _, rfl, goF (by show ¬ ("if" : Str) = "else"; decide +kernel) ⟨_, rfl, q5 _ _ e9 (hw5.mono e9)⟩⟩
      · have hof : e.isOp = false := by simpa using ho
        rw [decide_eq_true ((op_ncv hsrc.1).mpr hof)]
        refine iteT ⟨_, rfl, q _ _ e1 ?_⟩
        rw [show foldE e = e by cases e <;> first | rfl | cases hof]
        exact hda.mono e1
end
end Z
set_option Elab.async false
set_option linter.all false
set_option autoImplicit false
set_option maxRecDepth 100000
set_option maxHeartbeats 4000000
namespace Z
open PySem PySem.Spec PyProof.Rows L2
/-- an expression with other parts -/
def Ex.put : Ex → List Ex → Ex
  | .one w _, [x] => .one w x
  | .two w _ _, [x, y] => .two w x y
  | .ife _ _ _, [x, y, z] => .ife x y z
  | e, _ => e
/-- one expression is like another: no greater -/
def Le (x y : Ex) : Prop := x.nodes ≤ y.nodes ∧ x.levels ≤ y.levels
theorem put_ok {e : Ex} {xs : List Ex} (ho : e.isOp = true) (hs : Src e) (hl : xs.length = e.parts.length) (h : ∀ i : Nat, ∀ x y, xs[i]? = some x → e.parts[i]? = some y → (x.wf = true ∧ x.bd 1) ∧ Le x y) : (e.put xs).d = .tuple (.str e.word :: xs.map Ex.d) ∧ Src (e.put xs) ∧ Le (e.put xs) e := by
  obtain ⟨hw, hn, hlv, hb⟩ := hs
  cases e with
  | col n => cases ho
  | val k v => cases ho
  | one z x =>
    match xs, hl with
    | [a], _ =>
      obtain ⟨⟨h1, h2⟩, h3, h4⟩ := h 0 a x rfl rfl
      simp only [Ex.wf, Bool.and_eq_true] at hw
      simp only [Ex.nodes] at hn
      simp only [Ex.levels] at hlv
      refine ⟨rfl, ⟨by simp only [Ex.put, Ex.wf, Bool.and_eq_true]; exact ⟨hw.1, h1⟩, by simp only [Ex.put, Ex.nodes]; omega, by simp only [Ex.put, Ex.levels]; omega, h2⟩, by simp only [Ex.put, Ex.nodes]; omega, by simp only [Ex.put, Ex.levels]; omega⟩
  | two z x y =>
    match xs, hl with
    | [a, b], _ =>
      obtain ⟨⟨h1, h2⟩, h3, h4⟩ := h 0 a x rfl rfl
      obtain ⟨⟨g1, g2⟩, g3, g4⟩ := h 1 b y rfl rfl
      simp only [Ex.wf, Bool.and_eq_true] at hw
      simp only [Ex.nodes] at hn
      simp only [Ex.levels] at hlv
      refine ⟨rfl, ⟨by simp only [Ex.put, Ex.wf, Bool.and_eq_true]; exact ⟨hw.1, h1, g1⟩, by simp only [Ex.put, Ex.nodes]; omega, by simp only [Ex.put, Ex.levels]; omega, h2, g2⟩, by simp only [Ex.put, Ex.nodes]; omega, by simp only [Ex.put, Ex.levels]; omega⟩
  | ife x y z =>
    match xs, hl with
    | [a, b, c], _ =>
      obtain ⟨⟨h1, h2⟩, h3, h4⟩ := h 0 a x rfl rfl
      obtain ⟨⟨g1, g2⟩, g3, g4⟩ := h 1 b y rfl rfl
      obtain ⟨⟨i1, i2⟩, i3, i4⟩ := h 2 c z rfl rfl
      simp only [Ex.wf, Bool.and_eq_true] at hw
      simp only [Ex.nodes] at hn
      simp only [Ex.levels] at hlv
      refine ⟨rfl, ⟨by simp only [Ex.put, Ex.wf, Bool.and_eq_true]; exact ⟨h1, g1, i1⟩, by simp only [Ex.put, Ex.nodes]; omega, by simp only [Ex.put, Ex.levels]; omega, h2, g2, i2⟩, by simp only [Ex.put, Ex.nodes]; omega, by simp only [Ex.put, Ex.levels]; omega⟩
theorem le_leaf {x y : Ex} (h1 : x.nodes ≤ 1) (h2 : x.levels ≤ 1) : Le x y := ⟨Nat.le_trans h1 y.nodes_pos, Nat.le_trans h2 y.levels_pos⟩
def spSwap (K : PySem.W.Frag) (n : Nat) : Sp := fun vs H Q _ => ∃ p hv cols v e d, vs = [.ref p, hv, v, .int d] ∧ H p = some (Pool p) ∧ Da K H hv (.tuple (colsD cols)) ∧ colsOk cols ∧ Da K H v (Ex.d e) ∧ Src e ∧ 0 ≤ d ∧ d ≤ 6 ∧ e.levels ≤ n ∧
  ∀ x e' H', Src e' → Le e' e → Same H H' → Da K H' x (Ex.d e') → Q x H'
def spFill (K : PySem.W.Frag) (n : Nat) : Sp := fun vs H Q _ => ∃ p v e kp cols, vs = [.ref p, v, .ref kp] ∧ H p = some (Pool p) ∧ Da K H v (Ex.d e) ∧ Src e ∧ H kp = some (.dK (kvsOf cols)) ∧ (∀ c ∈ cols, kindS c.2 = true) ∧ (∃ k, kindE (kindsIn cols) e = some k) ∧ e.levels ≤ n ∧
  ∀ x e' H', Src e' → Le e' e → Same H H' → Da K H' x (Ex.d e') → Q x H'
theorem collect {K : PySem.W.Frag} {H : Hp} : ∀ {acc : List V} {P : Nat → Ex → Prop}, (∀ (i : Nat) (y : V), acc[i]? = some y → ∃ x, P i x ∧ Da K H y x.d) → ∃ xs : List Ex, xs.length = acc.length ∧ (∀ (i : Nat) (x : Ex), xs[i]? = some x → P i x) ∧ DaL K H acc (xs.map Ex.d)
  | [], _, _ => ⟨[], rfl, fun i x h => by simp at h, .nil⟩
  | a :: acc, P, h => by
    obtain ⟨x, h1, h2⟩ := h 0 a rfl
    obtain ⟨xs, g1, g2, g3⟩ := collect (acc := acc) (P := fun i => P (i + 1)) fun i y q => h (i + 1) y (by simpa using q)
    refine ⟨x :: xs, by simp [g1], fun i y q => ?_, .cons h2 g3⟩
    cases i with
    | zero => simp at q; subst q; exact h1
    | succ i => exact g2 i y (by simpa using q)
theorem slA_take {K : PySem.W.Frag} {H : Hp} {a : Addr} {xs : List V} {n : Nat} {Q : VK} (h : SqT K H a xs) (q : ∀ p H', Same H H' → SqT K H' p (xs.take n) → Q (.ref p) H') : rSlA K (.ref a) none (some (n : Int)) H Q := by
  have e0 : HT.sIx xs.length 0 none = 0 := rfl
  have e1 : HT.sIx xs.length xs.length (some (n : Int)) = min n xs.length := HT.sIx_nat _ _ n
  refine ⟨a, _, rfl, h, fun c => q a H (Same.refl _) ?_, fun _ p hp => q p _ (same_new hp) ?_⟩
  · have h2 := c.2
    rw [e1] at h2
    rw [List.take_of_length_le (by omega)]; exact h
  · have e2 : cutV xs none (some (n : Int)) = xs.take n := by
      unfold cutV
      rw [e0, e1, List.drop_zero, Nat.sub_zero]
      rcases Nat.le_total n xs.length with h | h
      · rw [Nat.min_eq_left h]
      · rw [Nat.min_eq_right h, List.take_of_length_le h, List.take_of_length_le (Nat.le_refl _)]
    rw [e2]; exact SqT.of upd_same
theorem slA_drop {K : PySem.W.Frag} {H : Hp} {a : Addr} {xs : List V} {n : Nat} {Q : VK} (h : SqT K H a xs) (hn : n ≤ xs.length) (q : ∀ p H', Same H H' → SqT K H' p (xs.drop n) → Q (.ref p) H') : rSlA K (.ref a) (some (n : Int)) none H Q := by
  have e0 : HT.sIx xs.length 0 (some (n : Int)) = n := by rw [HT.sIx_nat]; exact Nat.min_eq_left hn
  have e1 : HT.sIx xs.length xs.length none = xs.length := rfl
  refine ⟨a, _, rfl, h, fun c => q a H (Same.refl _) ?_, fun _ p hp => q p _ (same_new hp) ?_⟩
  · have h2 := c.1
    rw [e0] at h2
    subst h2; exact h
  · have e2 : cutV xs (some (n : Int)) none = xs.drop n := by
      unfold cutV
      rw [e0, e1]
      exact List.take_of_length_le (by rw [List.length_drop]; omega)
    rw [e2]; exact SqT.of upd_same
theorem DaL.take {K : PySem.W.Frag} {H : Hp} : ∀ {vs : List V} {ds : List PyData} (n : Nat), DaL K H vs ds → DaL K H (vs.take n) (ds.take n)
  | _, _, 0, _ => by simpa using DaL.nil
  | _, _, _ + 1, .nil => by simpa using DaL.nil
  | _, _, n + 1, .cons a b => by simpa using DaL.cons a (DaL.take n b)
theorem DaL.drop {K : PySem.W.Frag} {H : Hp} : ∀ {vs : List V} {ds : List PyData} (n : Nat), DaL K H vs ds → DaL K H (vs.drop n) (ds.drop n)
  | _, _, 0, h => by simpa using h
  | _, _, _ + 1, .nil => by simpa using DaL.nil
  | _, _, n + 1, .cons a b => by simpa using DaL.drop n b
theorem DaL.cat {K : PySem.W.Frag} {H : Hp} : ∀ {vs ws : List V} {ds es : List PyData}, DaL K H vs ds → DaL K H ws es → DaL K H (vs ++ ws) (ds ++ es)
  | _, _, _, _, .nil, h => h
  | _, _, _, _, .cons a b, h => .cons a (DaL.cat b h)
theorem set_data (w : PyData) (ds : List PyData) {j : Nat} (h : j < ds.length) (x : PyData) : ((w :: ds).take (1 + j) ++ [x]) ++ (w :: ds).drop (1 + j + 1) = w :: ds.set j x := by
  rw [List.set_eq_take_append_cons_drop, if_pos h]
  rw [Nat.add_comm 1 j]
  simp
def nameL : List Str := ["nope", "zz", "none", "q"]
section
variable {P : Program} {w : World} {K : PySem.W.Frag} {mg : Str → Option Value} {base : Heap}
theorem kn__law_filled (D : Def0 K mg "_law_filled" (top 69)) (T : TxtE K w mg) (F__law_draw : Kn P w K mg base CX0 "_law_draw" 1 ["pool", "many"] [] spDraw) (F__law_worth : Kn P w K mg base CX0 "_law_worth" 2 ["pool", "kind_here"] [] (spWorth K)) : ∀ n, Kn P w K mg base CX0 "_law_filled" (3 + n) ["pool", "tree", "kinds_here"] [] (spFill K n) := by
  obtain ⟨f, fd, F, m⟩ := D
  have sc_ : FnScope ["pool", "tree", "kinds_here", "part"] ["pool", "tree", "kinds_here"] (defScope (top 69)) := ⟨rfl, rfl, rfl, by decide +kernel, rfl, by decide +kernel, by decide +kernel⟩
  intro n
  induction n with
  | zero =>
    refine kn_of F m (F.ok sc_ (fun vs H Q E h => ?_) (fun cdv A outer s H vs Q E hr h => ?_)) (F.bindsN fun _ _ _ _ _ _ us hl => match us, hl with | [_, _, _], _ => rfl)
    · obtain ⟨p, v, e, kp, cols, rfl, _⟩ := h; rfl
    · obtain ⟨p, v, e, kp, cols, rfl, _, _, _, _, _, _, hl, _⟩ := h
      have := e.levels_pos
      omega
  | succ n ih =>
    have F__law_filled := ih
    refine kn_of F m (F.ok sc_ (fun vs H Q E h => ?_) (fun cdv A outer s H vs Q E hr h => ?_)) (F.bindsN fun _ _ _ _ _ _ us hl => match us, hl with | [_, _, _], _ => rfl)
    · obtain ⟨p, v, e, kp, cols, rfl, _⟩ := h; rfl
    · obtain ⟨p, v, e, kp, cols, rfl, hp, hd, hsrc, hk, hks, ⟨k, hke⟩, hl, q⟩ := h
      refine ⟨_, PSs.nox (pss_cons (ps_if (PW.pt (pw_or (pt_cmpR op_eq (pe_ix (k_ixT (K := K)) (pv 1) pe_int (fun _ _ => rfl)) pe_str (nomark _)) (pw_or1 (PW.pt (pw_and (pt_cmpR op_eq (pe_ix (k_ixT (K := K)) (pv 1) pe_int (fun _ _ => rfl)) pe_str (nomark _)) (pw_and1 (pt_cmpR op_eq (pe_own F__law_draw hr (by first | decide | omega | (simp only [Nat.add_eq]; omega)) pass0 (pa_cons (pv 0) (pa_cons pe_int pa_nil))) pe_int (nomark _)))))))) (pss_one (ps_ret (pv 1))) pss_nil)
      (pss_cons (ps_if (pt_cmpR op_eq (pe_ix (k_ixT (K := K)) (pv 1) pe_int (fun _ _ => rfl)) pe_str (nomark _)) (pss_one (ps_ret (pe_tup (pa_cons pe_str (pa_cons (pe_dget (hu_of hr) (pv 2) (pe_ix (k_ixT (K := K)) (pv 1) pe_int (fun _ _ => rfl)) (fun _ _ => rfl)) (pa_cons (pe_own F__law_worth hr (by first | decide | omega | (simp only [Nat.add_eq]; omega)) pass0 (pa_cons (pv 0) (pa_cons (pe_dget (hu_of hr) (pv 2) (pe_ix (k_ixT (K := K)) (pv 1) pe_int (fun _ _ => rfl)) (fun _ _ => rfl)) pa_nil))) pa_nil)))))) pss_nil)
      (pss_one (ps_ret (pe_op (k_catA (K := K)) (pe_tup (pa_cons (pe_ix (k_ixT (K := K)) (pv 1) pe_int (fun _ _ => rfl)) pa_nil)) (pe_callTy (k_tupOf (K := K)) (by rfl) T.z_tuple (by decide +kernel) (pa_cons (pe_lc (own := [("part", 3)]) (g := gName 3) (by rfl) sc_.nd (k_tup (K := K) (pe_slice (k_slA (K := K)) (pv 1) (po_some pe_int) po_none)) (blkOk_by (N := ["pool", "tree", "kinds_here", "part"]) (sc := defScope (top 69)) (by decide +kernel)) (fun _ _ _ _ _ => (pg_name (i := 3) sc_.nd rfl (by first | exact Or.inl rfl | exact Or.inr rfl))) (fun _ _ _ _ _ => pts_nil) (fun _ _ _ _ _ => (pe_own F__law_filled hr (by first | decide | omega | (simp only [Nat.add_eq]; omega)) pass0 (pa_cons (pv 0) (pa_cons (pv 3) (pa_cons (pv 2) pa_nil)))))) pa_nil))))))), ?_⟩
      have hda := hd
      obtain ⟨a, xs, rfl, hs, hx⟩ := Ex.open hd
      have keep : ∀ H1, Same H H1 → Q (.ref a) H1 := fun H1 e1 => q _ e H1 hsrc ⟨Nat.le_refl _, Nat.le_refl _⟩ e1 (hda.mono e1)
      refine ⟨_, rfl, a, _, _, _, rfl, rfl, hs, atI_nat (j := 0) rfl, rfl, _, rfl, ?_⟩
      rw [word_val hsrc.1]
      by_cases hc : constE e = true
      · rw [hc]
        exact iteT (iteT ⟨_, rfl, keep _ (Same.refl _)⟩)
      rw [show constE e = false by simpa using hc]
      refine iteF ⟨_, rfl, a, _, _, _, rfl, rfl, hs, atI_nat (j := 0) rfl, rfl, _, rfl, ?_⟩
      have kpart : ∀ x ∈ e.parts, ∃ k, kindE (kindsIn cols) x = some k := by
        intro x hx
        cases ho : e.isOp with
        | false => cases e <;> first | (cases hx; done) | (cases ho; done)
        | true =>
          obtain ⟨ks, h1, _, _⟩ := kindE_op ho hke
          obtain ⟨i, hi⟩ := List.mem_iff_getElem?.mp hx
          have h3 : (e.parts.map (kindE (kindsIn cols)))[i]? = (ks.map some)[i]? := by rw [h1]
          rw [List.getElem?_map, List.getElem?_map, hi] at h3
          simp only [Option.map_some] at h3
          cases h4 : ks[i]? with
          | none => rw [h4] at h3; cases h3
          | some c => rw [h4] at h3; exact ⟨c, by simpa using h3⟩
      by_cases hcol : e.word = "col"
      · refine goT hcol ⟨_, rfl, p, 3, rfl, hp, by decide, by decide, fun d H1 hd0 hd1 e1 => ⟨rfl, _, rfl, ?_⟩⟩
        refine ite2 (fun _ => ⟨_, rfl, keep _ e1⟩) (fun _ => ?_)
        cases e with
        | val k v => exact absurd rfl hc
        | one z x =>
          exact absurd hcol (Ex.op_tab hsrc.1 rfl).2.1
        | two z x y => exact absurd hcol (Ex.op_tab hsrc.1 rfl).2.1
        | ife x y z => exact absurd hcol (Ex.op_tab hsrc.1 rfl).2.1
        | col nm =>
          obtain ⟨x1, ys, rfl, h3, h4⟩ := hx.consI
          cases h4.nilI
          cases h3.strI
          have hlk : cols.lookup nm = some k := hke
          have hv : valV (kvsOf cols) (Sum.inr nm) = some (.str k) := by rw [valV_kvs, hlk]; rfl
          have hkk : kindS k = true := hks _ (lookup_in hlk)
          have hs1 := same_t e1 hs
          refine ⟨_, rfl, a, _, _, _, rfl, rfl, hs1, atI_nat (j := 0) rfl, rfl, _, rfl, goT rfl ?_⟩
          have dg : ∀ H', Same H H' → DGet H' kp (.str nm) (some (.str k)) := fun H' e' => by rw [← hv]; exact DGet.k (k := Sum.inr nm) (e' _ _ hk)
          refine ⟨_, rfl, _, rfl, a, _, _, _, rfl, rfl, hs1, atI_nat (j := 1) rfl, kp, .str k, rfl, dg _ e1, ?_⟩
          refine ⟨_, rfl, _, rfl, _, rfl, a, _, _, _, rfl, rfl, hs1, atI_nat (j := 1) rfl, kp, .str k, rfl, dg _ e1, ?_⟩
          refine ⟨p, k, rfl, e1 _ _ hp, hkk, fun e0 H2 h1 h2 h3 e2 => ⟨l2k 3 (by decide), fun t ht => ?_⟩⟩
          have s3 := same_new ht (o := .tup [.str "value", .str k, toV e0])
          refine q _ (.val k e0) _ ⟨by simp only [Ex.wf]; rw [hkk, h1, scal_flat h2 h3]; rfl, by simp only [Ex.nodes]; omega, by simp only [Ex.levels]; omega, small_bd h3⟩ (le_leaf (Nat.le_refl _) (Nat.le_refl _)) ((e1.trans e2).trans s3) ?_
          exact .tup (SqT.of upd_same) (.cons (.str _ (by decide +kernel)) (.cons (.str _ (kind_ok hkk).1) (.cons (toV_da h2 h3) .nil)))
      · have ho : e.isOp = true := by cases e <;> first | rfl | exact absurd rfl hc | exact absurd rfl hcol
        rw [Ex.op_items ho] at hx
        refine goF hcol ⟨_, rfl, a, _, _, _, rfl, rfl, hs, atI_nat (j := 0) rfl, rfl, _, rfl, goF hcol ?_⟩
        refine ⟨_, rfl, a, _, _, _, rfl, rfl, hs, atI_nat (j := 0) rfl, l2k 1 (by decide), fun t2 ht2 => ?_⟩
        have e1 := same_new ht2 (o := .tup [.str e.word])
        refine ⟨_, rfl, 1, rfl, ?_⟩
        dsimp only [tNoPart]
        refine slA1 (same_t e1 hs) fun p2 hp2 => ?_
        have s0 := e1.trans (same_new hp2 (o := .tup xs))
        have hlx : xs.length = e.parts.length := by rw [hx.length, List.length_map]
        refine ⟨p2, rfl, ⟨_, SqT.of upd_same⟩, fun Dd hD => lc_ok (walk_tup (K := K) (a := p2) (xs := xs)) (fun i y H' => ∃ x' : Ex, (∃ x0 : Ex, e.parts[i]? = some x0 ∧ (x'.wf = true ∧ x'.bd 1) ∧ Le x' x0) ∧ Da K H' y x'.d) hD (by rw [hlx]; exact Nat.lt_of_le_of_lt e.parts_le (by decide)) (fun H1 e1 => same_t e1 (SqT.of upd_same)) (fun i y H H' _ e' ⟨x', ⟨x0, h0, h3, h4⟩, h2⟩ => ⟨x', ⟨x0, h0, h3, h4⟩, Da.monoT e' (Ex.pure _ h3.1) h2⟩) (fun _ _ _ _ h => by rw [h.1]; exact Same.refl _) ?_ ?_⟩
        · rintro i x H1 H' hi s1 ⟨rfl, hxi⟩ Q' kk
          obtain ⟨d, hd1, hd2⟩ := DaL.get hx hxi
          rw [List.getElem?_map, Option.map_eq_some_iff] at hd1
          obtain ⟨x0, hx0, rfl⟩ := hd1
          have hmem := List.mem_of_getElem? hx0
          have hlev := Ex.level_part hmem
          have s01 := s0.trans s1
          exact ⟨rfl, _, rfl, _, rfl, _, rfl, p, x, x0, kp, cols, rfl, s01 _ _ hp, hd2.mono s01, hsrc.part hmem, s01 _ _ hk, hks, kpart x0 hmem, by omega, fun y x' H2 h1 h2 e2 hy => kk _ _ e2 ⟨x', ⟨x0, hx0, ⟨h1.1, h1.2.2.2⟩, h2⟩, hy⟩⟩
        · intro H1 acc s1 hacc hla hra
          obtain ⟨xs', g1, g2, g3⟩ := collect hra
          obtain ⟨hd', hsrc', hle'⟩ := put_ok ho hsrc (xs := xs') (by rw [g1, hla, hlx]) fun i x y h1 h2 => by
            obtain ⟨x0, h3, h4, h5⟩ := g2 i x h1
            rw [h2] at h3; cases h3
            exact ⟨h4, h5⟩
          refine ⟨Dd, acc, rfl, .inl ⟨SqL.of hacc, fun l3 hl3 => ?_⟩⟩
          have s3 := same_new hl3 (o := .tup acc)
          have ht2b := (((same_new hp2 (o := .tup xs)).trans s1).trans s3)
          refine catA_go (same_t ht2b (SqT.of (K := K) (upd_same (H := H) (a := t2) (o := .tup [.str e.word])))) (SqT.of upd_same) (by show 1 + acc.length ≤ _; have := sizeLine_eq; have := e.parts_le; omega) fun pw Hw ew hpw => ?_
          refine q _ (e.put xs') _ hsrc' hle' (((s0.trans s1).trans s3).trans ew) ?_
          rw [hd']
          exact .tup hpw (.cons (.str _ (Nat.le_trans (Ex.word_len hsrc.1) (by decide))) (DaL.mono (s3.trans ew) g3))
theorem kn__law_swapped (D : Def0 K mg "_law_swapped" (top 67)) (T : TxtE K w mg) (F__law_draw : Kn P w K mg base CX0 "_law_draw" 1 ["pool", "many"] [] spDraw) (F__law_leaf : Kn P w K mg base CX0 "_law_leaf" 3 ["pool", "heads", "kind_here"] [] (spLeaf K)) : ∀ n, Kn P w K mg base CX0 "_law_swapped" (4 + n) ["pool", "heads", "tree", "deep"] [] (spSwap K n) := by
  obtain ⟨f, fd, F, m⟩ := D
  have sc_ : FnScope ["pool", "heads", "tree", "deep", "at", "part"] ["pool", "heads", "tree", "deep"] (defScope (top 67)) := ⟨rfl, rfl, rfl, by decide +kernel, rfl, by decide +kernel, by decide +kernel⟩
  intro n
  induction n with
  | zero =>
    refine kn_of F m (F.ok sc_ (fun vs H Q E h => ?_) (fun cdv A outer s H vs Q E hr h => ?_)) (F.bindsN fun _ _ _ _ _ _ us hl => match us, hl with | [_, _, _, _], _ => rfl)
    · obtain ⟨p, hv, cols, v, e, d, rfl, _⟩ := h; rfl
    · obtain ⟨p, hv, cols, v, e, d, rfl, _, _, _, _, _, _, _, hl, _⟩ := h
      have := e.levels_pos
      omega
  | succ n ih =>
    have F__law_swapped := ih
    refine kn_of F m (F.ok sc_ (fun vs H Q E h => ?_) (fun cdv A outer s H vs Q E hr h => ?_)) (F.bindsN fun _ _ _ _ _ _ us hl => match us, hl with | [_, _, _, _], _ => rfl)
    · obtain ⟨p, hv, cols, v, e, d, rfl, _⟩ := h; rfl
    · obtain ⟨p, hv, cols, v, e, d, rfl, hp, hh, hc, hd, hsrc, hd0, hd6, hl, q⟩ := h
      refine ⟨_, PSs.nox (pss_cons (ps_if (PW.pt (pw_or (pt_cmpR (k_in (K := K)) (pe_ix (k_ixT (K := K)) (pv 2) pe_int (fun _ _ => rfl)) (pe_lst (pa_cons pe_str (pa_cons pe_str pa_nil))) (by rfl)) (pw_or (pt_cmpR op_eq (pv 3) pe_int (nomark _)) (pw_or1 (pt_cmpR op_eq (pe_own F__law_draw hr (by first | decide | omega | (simp only [Nat.add_eq]; omega)) pass0 (pa_cons (pv 0) (pa_cons pe_int pa_nil))) pe_int (nomark _)))))) (pss_cons (ps_if (pt_cmpR op_eq (pe_own F__law_draw hr (by first | decide | omega | (simp only [Nat.add_eq]; omega)) pass0 (pa_cons (pv 0) (pa_cons pe_int pa_nil))) pe_int (nomark _)) (pss_one (ps_ret (pe_tup (pa_cons pe_str (pa_cons (pe_ix (k_ixL (K := K)) (pe_lst (pa_cons pe_str (pa_cons pe_str (pa_cons pe_str (pa_cons pe_str pa_nil))))) (pe_own F__law_draw hr (by first | decide | omega | (simp only [Nat.add_eq]; omega)) pass0 (pa_cons (pv 0) (pa_cons pe_int pa_nil))) (fun _ _ => rfl)) pa_nil))))) pss_nil)
      (pss_one (ps_ret (pe_own F__law_leaf hr (by first | decide | omega | (simp only [Nat.add_eq]; omega)) pass0 (pa_cons (pv 0) (pa_cons (pv 1) (pa_cons (pe_ix (k_ixL (K := K)) (pe_lst (pa_cons pe_str (pa_cons pe_str (pa_cons pe_str pa_nil)))) (pe_own F__law_draw hr (by first | decide | omega | (simp only [Nat.add_eq]; omega)) pass0 (pa_cons (pv 0) (pa_cons pe_int pa_nil))) (fun _ _ => rfl)) pa_nil))))))) pss_nil)
      (pss_cons (ps_set (i := 4) sc_.nd rfl (by first | exact Or.inl rfl | exact Or.inr rfl) (pe_op op_add pe_int (pe_own F__law_draw hr (by first | decide | omega | (simp only [Nat.add_eq]; omega)) pass0 (pa_cons (pv 0) (pa_cons (pe_op op_sub (pe_callB (k_len (K := K)) (by rfl) T.z_len (by decide +kernel) (pa_cons (pv 2) pa_nil)) pe_int) pa_nil)))))
      (pss_cons (ps_set (i := 5) sc_.nd rfl (by first | exact Or.inl rfl | exact Or.inr rfl) (pe_own F__law_swapped hr (by first | decide | omega | (simp only [Nat.add_eq]; omega)) pass0 (pa_cons (pv 0) (pa_cons (pv 1) (pa_cons (pe_ix (k_ixT (K := K)) (pv 2) (pv 4) (fun _ _ => rfl)) (pa_cons (pe_op op_sub (pv 3) pe_int) pa_nil))))))
      (pss_one (ps_ret (pe_op (k_catA (K := K)) (pe_op (k_catA (K := K)) (pe_slice (k_slA (K := K)) (pv 2) po_none (po_some (pv 4))) (pe_tup (pa_cons (pv 5) pa_nil))) (pe_slice (k_slA (K := K)) (pv 2) (po_some (pe_op op_add (pv 4) pe_int)) po_none))))))), ?_⟩
      have leafq : ∀ x e', IsE cols x e' → e'.levels ≤ 1 → e'.nodes ≤ 1 → Src e' ∧ Le e' e := fun x e' h1 h2 h3 => ⟨⟨h1.1, by omega, by omega, h1.2.2⟩, le_leaf h3 h2⟩
      obtain ⟨a, xs, rfl, hs, hx⟩ := Ex.open hd
      refine ⟨_, rfl, a, _, _, _, rfl, rfl, hs, atI_nat (j := 0) rfl, l2k 2 (by decide), fun t1 ht1 => ?_⟩
      have e1 := same_new ht1 (o := .lst [.str "col", .str "value"])
      refine ⟨t1, _, rfl, .inl (SqL.of upd_same), rfl, flat_strs ["col", "value"], _, rfl, ?_⟩
      show (if inV (.str e.word) ((["col", "value"] : List Str).map V.str) = true then _ else _)
      rw [inV_strs]
      by_cases ho : e.isOp = true
      · rw [decide_eq_false (fun c => by have := (op_ncv hsrc.1).mp c; rw [ho] at this; cases this)]
        refine iteF ⟨_, rfl, rfl, _, rfl, ?_⟩
        by_cases h0 : d = 0
        · rw [decide_eq_true (congrArg V.int h0)]
          refine iteT ?_
          refine ⟨_, rfl, p, 3, rfl, e1 _ _ hp, by decide, by decide, fun d2 H2 hd20 hd21 e2 => ⟨rfl, _, rfl, ?_⟩⟩
          have e12 := e1.trans e2
          refine ite2 (fun _ => ?_) (fun _ => ?_)
          · refine ⟨l2k 4 (by decide), fun t3 ht3 => ?_⟩
            have e3 := same_new ht3 (o := .lst [.str "nope", .str "zz", .str "none", .str "q"])
            have e13 := e12.trans e3
            refine ⟨_, rfl, p, 4, rfl, e13 _ _ hp, by decide, by decide, fun d3 H3 hd30 hd31 e4' => ?_⟩
            obtain ⟨n3, rfl⟩ : ∃ n : Nat, d3 = (n : Int) := ⟨d3.toNat, by omega⟩
            have hn3 : n3 < nameL.length := by show n3 < 4; omega
            have hnm : nameS (nameL[n3]) = true := List.all_eq_true.mp (by decide +kernel : nameL.all nameS = true) _ (List.getElem_mem hn3)
            have e134 := e13.trans e4'
            refine ⟨t3, nameL.map V.str, _, .str nameL[n3], rfl, rfl, Same.seq e4' (SqL.of upd_same), atI_nat (by rw [List.getElem?_map, List.getElem?_eq_getElem hn3]; rfl), l2k 2 (by decide), fun t5 ht5 => ?_⟩
            have e5' := same_new ht5 (o := .tup [.str "col", .str nameL[n3]])
            exact q _ (.col nameL[n3]) _ ⟨hnm, by simp only [Ex.nodes]; omega, by simp only [Ex.levels]; omega, trivial⟩ (le_leaf (Nat.le_refl _) (Nat.le_refl _)) (e134.trans e5') (da_col (SqT.of upd_same) hnm)
          · refine ⟨_, rfl, _, rfl, l2k 3 (by decide), fun t3 ht3 => ?_⟩
            have e3 := same_new ht3 (o := .lst [.str "int", .str "text", .str "bool"])
            have e13 := e12.trans e3
            refine ⟨_, rfl, p, 3, rfl, e13 _ _ hp, by decide, by decide, fun d3 H3 hd30 hd31 e4' => ?_⟩
            obtain ⟨n3, rfl⟩ : ∃ n : Nat, d3 = (n : Int) := ⟨d3.toNat, by omega⟩
            have hn3 : n3 < kindsL.length := by show n3 < 3; omega
            have hkk : kindS (kindsL[n3]) = true := List.all_eq_true.mp (by decide +kernel : kindsL.all kindS = true) _ (List.getElem_mem hn3)
            have e134 := e13.trans e4'
            exact ⟨t3, kindsL.map V.str, _, .str kindsL[n3], rfl, rfl, Same.seq e4' (SqL.of upd_same), atI_nat (by rw [List.getElem?_map, List.getElem?_eq_getElem hn3]; rfl), p, hv, cols, kindsL[n3], rfl, e134 _ _ hp, hh.mono e134, hc, hkk, fun x e' H' h1 h2 h3 e5' h5 => q x e' H' (leafq _ e' h1 h2 h3).1 (leafq _ e' h1 h2 h3).2 (e134.trans e5') h5⟩
        rw [decide_eq_false (fun c => h0 (V.int.inj c))]
        refine iteF ⟨_, rfl, p, 4, rfl, e1 _ _ hp, by decide, by decide, fun d4 H4 hd40 hd41 e4 => ⟨rfl, _, rfl, ?_⟩⟩
        have e14 := e1.trans e4
        refine ite2 (fun _ => ?_) (fun _ => ?_)
        · clear e1
          have e1 := e14
          refine ⟨_, rfl, p, 3, rfl, e1 _ _ hp, by decide, by decide, fun d2 H2 hd20 hd21 e2 => ⟨rfl, _, rfl, ?_⟩⟩
          have e12 := e1.trans e2
          refine ite2 (fun _ => ?_) (fun _ => ?_)
          · refine ⟨l2k 4 (by decide), fun t3 ht3 => ?_⟩
            have e3 := same_new ht3 (o := .lst [.str "nope", .str "zz", .str "none", .str "q"])
            have e13 := e12.trans e3
            refine ⟨_, rfl, p, 4, rfl, e13 _ _ hp, by decide, by decide, fun d3 H3 hd30 hd31 e4' => ?_⟩
            obtain ⟨n3, rfl⟩ : ∃ n : Nat, d3 = (n : Int) := ⟨d3.toNat, by omega⟩
            have hn3 : n3 < nameL.length := by show n3 < 4; omega
            have hnm : nameS (nameL[n3]) = true := List.all_eq_true.mp (by decide +kernel : nameL.all nameS = true) _ (List.getElem_mem hn3)
            have e134 := e13.trans e4'
            refine ⟨t3, nameL.map V.str, _, .str nameL[n3], rfl, rfl, Same.seq e4' (SqL.of upd_same), atI_nat (by rw [List.getElem?_map, List.getElem?_eq_getElem hn3]; rfl), l2k 2 (by decide), fun t5 ht5 => ?_⟩
            have e5' := same_new ht5 (o := .tup [.str "col", .str nameL[n3]])
            exact q _ (.col nameL[n3]) _ ⟨hnm, by simp only [Ex.nodes]; omega, by simp only [Ex.levels]; omega, trivial⟩ (le_leaf (Nat.le_refl _) (Nat.le_refl _)) (e134.trans e5') (da_col (SqT.of upd_same) hnm)
          · refine ⟨_, rfl, _, rfl, l2k 3 (by decide), fun t3 ht3 => ?_⟩
            have e3 := same_new ht3 (o := .lst [.str "int", .str "text", .str "bool"])
            have e13 := e12.trans e3
            refine ⟨_, rfl, p, 3, rfl, e13 _ _ hp, by decide, by decide, fun d3 H3 hd30 hd31 e4' => ?_⟩
            obtain ⟨n3, rfl⟩ : ∃ n : Nat, d3 = (n : Int) := ⟨d3.toNat, by omega⟩
            have hn3 : n3 < kindsL.length := by show n3 < 3; omega
            have hkk : kindS (kindsL[n3]) = true := List.all_eq_true.mp (by decide +kernel : kindsL.all kindS = true) _ (List.getElem_mem hn3)
            have e134 := e13.trans e4'
            exact ⟨t3, kindsL.map V.str, _, .str kindsL[n3], rfl, rfl, Same.seq e4' (SqL.of upd_same), atI_nat (by rw [List.getElem?_map, List.getElem?_eq_getElem hn3]; rfl), p, hv, cols, kindsL[n3], rfl, e134 _ _ hp, hh.mono e134, hc, hkk, fun x e' H' h1 h2 h3 e5' h5 => q x e' H' (leafq _ e' h1 h2 h3).1 (leafq _ e' h1 h2 h3).2 (e134.trans e5') h5⟩
        rw [Ex.op_items ho] at hx
        have hlx : xs.length = e.parts.length := by rw [hx.length, List.length_map]
        have hpos : 1 ≤ e.parts.length := by cases e <;> first | (cases ho; done) | decide | (simp [Ex.parts])
        have hp3 := e.parts_le
        have hs4 := same_t e14 hs
        refine ⟨_, rfl, _, rfl, a, _, rfl, .inr hs4, _, _, rfl, rfl, p, _, rfl, e14 _ _ hp, by simp only [List.length_cons]; omega, by simp only [List.length_cons]; omega, fun j H5 hj0 hj1 e5 => ⟨_, _, rfl, rfl, ?_⟩⟩
        simp only [List.length_cons] at hj1
        obtain ⟨jn, rfl⟩ : ∃ n : Nat, j = (n : Int) := ⟨j.toNat, by omega⟩
        have hjn : jn < e.parts.length := by omega
        have e15 := e14.trans e5
        have hs5 := same_t e5 hs4
        have hat : (1 : Int) + (jn : Int) = ((1 + jn : Nat) : Int) := by omega
        change gName 4 (V.int (1 + (jn : Int))) _ _ _
        rw [hat]
        have hx0 : e.parts[jn]? = some e.parts[jn] := List.getElem?_eq_getElem hjn
        obtain ⟨xv, hxv, hxd⟩ := DaL.get' (i := jn) (d := (e.parts[jn]).d) hx (by rw [List.getElem?_map, hx0]; rfl)
        have hxm : e.parts[jn] ∈ e.parts := List.getElem_mem hjn
        have hlev := Ex.level_part hxm
        refine ⟨_, rfl, _, rfl, _, rfl, _, rfl, a, _, _, xv, rfl, rfl, hs5, atI_nat (by rw [Nat.add_comm]; exact hxv), _, rfl, _, _, rfl, rfl, p, hv, cols, xv, e.parts[jn], d - 1, rfl, e15 _ _ hp, hh.mono e15, hc, hxd.mono e15, hsrc.part hxm, by omega, by omega, by omega, fun x x' H6 hs6 hle6 e6 hx6 => ?_⟩
        have e16 := e15.trans e6
        have hs6' := same_t e6 hs5
        refine ⟨_, rfl, ?_⟩
        dsimp only [tNoPart]
        refine ⟨_, rfl, _, rfl, ?_⟩
        refine slA_take hs6' fun p7 H7 e7 hp7 => ?_
        refine ⟨_, rfl, l2k 1 (by decide), fun p8 hp8 => ?_⟩
        have e8 := same_new hp8 (o := .tup [x])
        refine catA_go (same_t e8 hp7) (SqT.of upd_same) (by simp only [List.length_take, List.length_cons, List.length_nil]; have := sizeLine_eq; omega) fun p9 H9 e9 hp9 => ?_
        have e79 := (e7.trans e8).trans e9
        have hs9 := same_t e79 hs6'
        refine ⟨_, rfl, _, rfl, _, _, rfl, rfl, _, rfl, ?_⟩
        dsimp only [tNoPart]
        rw [show ((1 + jn : Nat) : Int) + 1 = ((1 + jn + 1 : Nat) : Int) by omega]
        refine slA_drop hs9 (by simp only [List.length_cons]; omega) fun p10 H10 e10 hp10 => ?_
        refine catA_go (same_t e10 hp9) hp10 (by simp only [List.length_append, List.length_take, List.length_drop, List.length_cons, List.length_nil]; have := sizeLine_eq; omega) fun p11 H11 e11 hp11 => ?_
        obtain ⟨hd', hsrc', hle'⟩ := put_ok ho hsrc (xs := e.parts.set jn x') (by rw [List.length_set]) fun i y z h1 h2 => by
          by_cases hi : jn = i
          · subst hi
            rw [List.getElem?_set_self hjn] at h1
            cases h1
            rw [hx0] at h2; cases h2
            exact ⟨⟨hs6.1, hs6.2.2.2⟩, hle6⟩
          · rw [List.getElem?_set_ne hi] at h1
            rw [h2] at h1; cases h1
            have := hsrc.part (List.mem_of_getElem? h2)
            exact ⟨⟨this.1, this.2.2.2⟩, Nat.le_refl _, Nat.le_refl _⟩
        have e611 := (e79.trans e10).trans e11
        have e111 := e16.trans e611
        refine q _ (e.put (e.parts.set jn x')) _ hsrc' hle' e111 ?_
        rw [hd', List.map_set]
        rw [← set_data (.str e.word) (e.parts.map Ex.d) (by rw [List.length_map]; exact hjn) x'.d]
        have hall : DaL K H11 (.str e.word :: xs) (.str e.word :: e.parts.map Ex.d) := .cons (.str _ (Nat.le_trans (Ex.word_len hsrc.1) (by decide))) (DaL.mono e111 hx)
        exact .tup hp11 (DaL.cat (DaL.cat (DaL.take _ hall) (.cons (hx6.mono e611) .nil)) (DaL.drop _ hall))
      · have hof : e.isOp = false := by simpa using ho
        rw [decide_eq_true ((op_ncv hsrc.1).mpr hof)]
        refine iteT ?_
        refine ⟨_, rfl, p, 3, rfl, e1 _ _ hp, by decide, by decide, fun d2 H2 hd20 hd21 e2 => ⟨rfl, _, rfl, ?_⟩⟩
        have e12 := e1.trans e2
        refine ite2 (fun _ => ?_) (fun _ => ?_)
        · refine ⟨l2k 4 (by decide), fun t3 ht3 => ?_⟩
          have e3 := same_new ht3 (o := .lst [.str "nope", .str "zz", .str "none", .str "q"])
          have e13 := e12.trans e3
          refine ⟨_, rfl, p, 4, rfl, e13 _ _ hp, by decide, by decide, fun d3 H3 hd30 hd31 e4' => ?_⟩
          obtain ⟨n3, rfl⟩ : ∃ n : Nat, d3 = (n : Int) := ⟨d3.toNat, by omega⟩
          have hn3 : n3 < nameL.length := by show n3 < 4; omega
          have hnm : nameS (nameL[n3]) = true := List.all_eq_true.mp (by decide +kernel : nameL.all nameS = true) _ (List.getElem_mem hn3)
          have e134 := e13.trans e4'
          refine ⟨t3, nameL.map V.str, _, .str nameL[n3], rfl, rfl, Same.seq e4' (SqL.of upd_same), atI_nat (by rw [List.getElem?_map, List.getElem?_eq_getElem hn3]; rfl), l2k 2 (by decide), fun t5 ht5 => ?_⟩
          have e5' := same_new ht5 (o := .tup [.str "col", .str nameL[n3]])
          exact q _ (.col nameL[n3]) _ ⟨hnm, by simp only [Ex.nodes]; omega, by simp only [Ex.levels]; omega, trivial⟩ (le_leaf (Nat.le_refl _) (Nat.le_refl _)) (e134.trans e5') (da_col (SqT.of upd_same) hnm)
        · refine ⟨_, rfl, _, rfl, l2k 3 (by decide), fun t3 ht3 => ?_⟩
          have e3 := same_new ht3 (o := .lst [.str "int", .str "text", .str "bool"])
          have e13 := e12.trans e3
          refine ⟨_, rfl, p, 3, rfl, e13 _ _ hp, by decide, by decide, fun d3 H3 hd30 hd31 e4' => ?_⟩
          obtain ⟨n3, rfl⟩ : ∃ n : Nat, d3 = (n : Int) := ⟨d3.toNat, by omega⟩
          have hn3 : n3 < kindsL.length := by show n3 < 3; omega
          have hkk : kindS (kindsL[n3]) = true := List.all_eq_true.mp (by decide +kernel : kindsL.all kindS = true) _ (List.getElem_mem hn3)
          have e134 := e13.trans e4'
          exact ⟨t3, kindsL.map V.str, _, .str kindsL[n3], rfl, rfl, Same.seq e4' (SqL.of upd_same), atI_nat (by rw [List.getElem?_map, List.getElem?_eq_getElem hn3]; rfl), p, hv, cols, kindsL[n3], rfl, e134 _ _ hp, hh.mono e134, hc, hkk, fun x e' H' h1 h2 h3 e5' h5 => q x e' H' (leafq _ e' h1 h2 h3).1 (leafq _ e' h1 h2 h3).2 (e134.trans e5') h5⟩
end
end Z
set_option Elab.async false
set_option linter.all false
set_option autoImplicit false
set_option maxRecDepth 100000
set_option maxHeartbeats 4000000
namespace Z
open PySem PySem.Spec PyProof.Rows L2
def spRight : Sp := fun vs H Q _ => ∃ p, vs = [.ref p] ∧ H p = some (Pool p) ∧ ∀ H', Same H H' → Q (.bl true) H'
theorem cols_paired {K : PySem.W.Frag} {H : Hp} : ∀ {cols : List (Str × Str)} {xs : List V}, DaL K H xs (colsD cols) → ∃ ps : List Addr, xs = ps.map V.ref ∧ Paired (fun (p : Addr) (kv : Key × V) => SqT K H p [kV kv.1, kv.2]) ps (kvsOf cols)
  | [], _, h => by
    cases h
    exact ⟨[], rfl, .nil⟩
  | c :: cols, _, h => by
    obtain ⟨v, ws, rfl, h1, h2⟩ := DaL.consI (d := .tuple [.str c.1, .str c.2]) (ds := colsD cols) h
    obtain ⟨r, rfl, g⟩ := col_open h1
    obtain ⟨ps, rfl, h3⟩ := cols_paired h2
    exact ⟨r :: ps, rfl, .cons g h3⟩
theorem merge_cols {cols : List (Str × Str)} (h : (cols.map (·.1)).Nodup) : mergeK [] (kvsOf cols) = kvsOf cols := by
  have := mergeK_new (kvsOf cols) [] (by
    unfold kvsOf
    rw [List.map_map]
    show (cols.map fun c => (Sum.inr c.1 : Key)).Nodup
    have e : (cols.map fun c => (Sum.inr c.1 : Key)) = (cols.map (·.1)).map (fun z : Str => (Sum.inr z : Key)) := by rw [List.map_map]; rfl
    rw [e]
    exact List.Pairwise.map _ (fun a b hab c => hab (Sum.inr.inj c)) h) (fun q _ p hp => by cases hp)
  simpa using this
theorem all_trues {acc : List V} (h : ∀ (i : Nat) y, acc[i]? = some y → y = .bl true) : acc = (List.replicate acc.length true).map V.bl := by
  apply List.ext_getElem?
  intro i
  by_cases hi : i < acc.length
  · have h1 := h i acc[i] (List.getElem?_eq_getElem hi)
    rw [List.getElem?_eq_getElem hi, h1, List.getElem?_map, List.getElem?_replicate, if_pos hi]; rfl
  · rw [List.getElem?_eq_none (by omega), List.getElem?_eq_none (by rw [List.length_map, List.length_replicate]; omega)]
theorem all_go {K : PySem.W.Frag} {H : Hp} {D : Addr} {acc : List V} {Q : VK} (hD : H D = some (.lst acc)) (h : ∀ (i : Nat) y, acc[i]? = some y → y = .bl true) (q : Q (.bl true) H) : rAll K [.ref D] H Q := by
  refine ⟨D, List.replicate acc.length true, rfl, SqL.of (by rw [hD, ← all_trues h]), ?_⟩
  rw [show (List.replicate acc.length true).all id = true by simp]
  exact q
theorem kn_ofG {P : Program} {w : World} {K : PySem.W.Frag} {mg : Str → Option Value} {base : Heap} {CX : CXT} {x : Str} {st : Stmt} {f : Addr} {fd : FuncData} {k : Nat} {ps : List Str} {sp : Sp} (F : FnP K x st f fd) (m : mg x = some (.ref f)) (ok : FnG P w K mg base CX k f fd ps sp) (b : Binds K fd ps []) : KnG P w K mg base CX x k ps [] sp := ⟨f, fd, [], ok, m, F.kp, b, .nil⟩
def spToldF (K : PySem.W.Frag) : Sp := fun vs H Q _ => ∃ v e, vs = [v] ∧ Da K H v (Ex.d e) ∧ Src e ∧ ∀ H', Same H H' → Q (.bl true) H'
/-- what repr asks of an expression -/
theorem repr_ok {N L M : Nat} {e : Ex} (g : Good N L M e) (hN : N ≤ 40) (hL : L ≤ 8) (hM : M ≤ 40) : e.d.showable = true ∧ e.d.shown.length ≤ 700000 ∧ e.d.depth ≤ 8 := by
  have hb := Ex.bd_le hM g.bd
  refine ⟨Ex.showable g.wf hb, ?_, Nat.le_trans (Ex.depth e rfl g.wf) (Nat.le_trans g.levels hL)⟩
  have h1 := Ex.shown_le g.wf hb
  have h2 := g.nodes
  have h3 : 17000 * e.nodes ≤ 17000 * 40 := Nat.mul_le_mul_left _ (Nat.le_trans h2 hN)
  omega
theorem repr_1 {d : PyData} (h : d.showable = true ∧ d.shown.length ≤ 700000 ∧ d.depth ≤ 8) : d.showable = true ∧ d.shown.length ≤ sizeLine ∧ d.depth ≤ 64 := ⟨h.1, Nat.le_trans h.2.1 (by decide), Nat.le_trans h.2.2 (by decide)⟩
theorem repr_3 {d : PyData} (h : d.showable = true ∧ d.shown.length ≤ 700000 ∧ d.depth ≤ 8) : (PyData.list [d, d, d]).showable = true ∧ (PyData.list [d, d, d]).shown.length ≤ sizeLine ∧ (PyData.list [d, d, d]).depth ≤ 64 := by
  refine ⟨?_, ?_, ?_⟩
  · simp only [PyData.showable, PyData.showableAll, h.1, Bool.and_self]
  · have h4 := listText_len_le (PyData.shownAll [d, d, d])
    have := sizeLine_eq
    simp only [PyData.shown, PyData.shownAll, List.map_cons, List.map_nil, List.sum_cons, List.sum_nil, List.length_cons, List.length_nil] at h4 ⊢
    have := h.2.1
    omega
  · simp only [PyData.depth, PyData.depthAll]
    have := h.2.2
    omega
theorem Src.good {e : Ex} (h : Src e) : Good 40 8 1 e := ⟨h.1, h.2.1, h.2.2.1, h.2.2.2⟩
section
variable {P : Program} {w : World} {K : PySem.W.Frag} {mg : Str → Option Value} {base : Heap}
theorem kn__law_told_right (D : Def0 K mg "_law_told_right" (top 70)) (T : TxtE K w mg) (zrepr : mg "repr" = none) (F__law_folded : Kn P w K mg base CX0 "_law_folded" 12 ["tree"] [] (spFW K 8)) (F_folded : Kn P w K mg base CX0 "folded" 13 ["expression"] [] (spFolded K)) (FK_folded : KnK P w K mg base CX0 "folded" 13 ["expression"] ["expression"] gI (spFolded K)) : KnG P w K mg base CX0 "_law_told_right" 14 ["tree"] [] (spToldF K) := by
  obtain ⟨f, fd, F, m⟩ := D
  have sc_ : FnScope ["tree", "due", "shown", "told"] ["tree"] (defScope (top 70)) := ⟨rfl, rfl, rfl, by decide +kernel, rfl, by decide +kernel, by decide +kernel⟩
  refine kn_ofG F m (okG F sc_ (fun vs H Q E h => ?_) (fun cdv A outer s H vs Q E hr st h => ?_)) (F.bindsN fun _ _ _ _ _ _ us hl => match us, hl with | [_], _ => rfl)
  · obtain ⟨v, e, rfl, _⟩ := h; rfl
  · obtain ⟨v, e, rfl, hd, hs, q⟩ := h
    refine ⟨_, PSs.nox (pss_cons (ps_par (i := 1) (j := 2) (by rfl) sc_.nd rfl rfl (by decide) rfl rfl (pa_cons (pe_own F__law_folded hr (by first | decide | omega | (simp only [Nat.add_eq]; omega)) pass0 (pa_cons (pv 0) pa_nil)) (pa_cons (pe_callB (k_repr (K := K) hr st) (by rfl) zrepr (by decide +kernel) (pa_cons (pv 0) pa_nil)) pa_nil)) (by rfl))
      (pss_cons (ps_set (i := 3) sc_.nd rfl (by first | exact Or.inl rfl | exact Or.inr rfl) (pe_lst (pa_cons (pe_own F_folded hr (by first | decide | omega | (simp only [Nat.add_eq]; omega)) pass0 (pa_cons (pv 0) pa_nil)) (pa_cons (pe_ownK0 FK_folded hr (by decide) pass0 (pk_cons (pv 0) pk_nil)) (pa_cons (pe_own F_folded hr (by first | decide | omega | (simp only [Nat.add_eq]; omega)) pass0 (pa_cons (pv 0) pa_nil)) pa_nil)))))
      (pss_one (ps_ret (pe_and (pe_cmpR op_eq (pe_callB (k_repr (K := K) hr st) (by rfl) zrepr (by decide +kernel) (pa_cons (pv 3) pa_nil)) (pe_callB (k_repr (K := K) hr st) (by rfl) zrepr (by decide +kernel) (pa_cons (pe_op op_rep (pe_lst (pa_cons (pv 1) pa_nil)) pe_int) pa_nil)) (nomark _)) (pe_one (pe_cmpR op_eq (pe_callB (k_repr (K := K) hr st) (by rfl) zrepr (by decide +kernel) (pa_cons (pv 0) pa_nil)) (pv 2) (nomark _)))))))), ?_⟩
    have r0 := repr_1 (repr_ok hs.good (by decide) (by decide) (by decide))
    have r1 := repr_3 (repr_ok hs.fold (by decide) (by decide) (by decide))
    refine ⟨_, rfl, v, e, rfl, hd, hs, hs.2.2.1, fun y H1 e1 hy => ?_⟩
    refine ⟨_, rfl, v, _, rfl, hd.mono e1, r0.1, r0.2.1, r0.2.2, ?_⟩
    refine ⟨_, _, rfl, ?_⟩
    change tSeq _ _ _ [some v, some y, some (.str e.d.shown), none] _
    refine ⟨_, rfl, v, e, rfl, hd.mono e1, hs, fun y1 H2 e2 hy1 => ?_⟩
    have e12 := e1.trans e2
    refine ⟨_, rfl, v, e, rfl, hd.mono e12, hs, fun y2 H3 e3 hy2 => ?_⟩
    have e13 := e12.trans e3
    refine ⟨_, rfl, v, e, rfl, hd.mono e13, hs, fun y3 H4 e4 hy3 => ⟨l2k 3 (by decide), fun t ht => ?_⟩⟩
    have e14 := e13.trans e4
    have s5 := same_new ht (o := .lst [y1, y2, y3])
    have e15 := e14.trans s5
    have d1 : Da K (upd H4 t (.lst [y1, y2, y3])) (.ref t) (.list [(foldE e).d, (foldE e).d, (foldE e).d]) := .lst (SqL.of upd_same) (.cons (hy1.mono ((e3.trans e4).trans s5)) (.cons (hy2.mono (e4.trans s5)) (.cons (hy3.mono s5) .nil)))
    have hy5 := hy.mono (((e2.trans e3).trans e4).trans s5)
    generalize hH5 : upd H4 t (.lst [y1, y2, y3]) = H5 at d1 e15 hy5 ⊢
    refine ⟨_, rfl, _, _, rfl, d1, r1.1, r1.2.1, r1.2.2, ?_⟩
    refine ⟨_, rfl, l2k 1 (by decide), fun t2 ht2 => ?_⟩
    have s6 := same_new ht2 (o := .lst [y])
    refine ⟨t2, 3, [y], rfl, rfl, upd_same, by decide, by decide, (by show 1 * 3 ≤ sizeLine; decide), fun t3 ht3 => ?_⟩
    have s7 := same_new ht3 (o := .lst (List.replicate (3 : Int).toNat [y]).flatten)
    have hy7 := hy5.mono (s6.trans s7)
    have d2 : Da K (upd (upd H5 t2 (.lst [y])) t3 (.lst (List.replicate (3 : Int).toNat [y]).flatten)) (.ref t3) (.list [(foldE e).d, (foldE e).d, (foldE e).d]) := .lst (SqL.of upd_same) (.cons hy7 (.cons hy7 (.cons hy7 .nil)))
    refine ⟨_, _, rfl, d2, r1.1, r1.2.1, r1.2.2, rfl, ?_⟩
    rw [decide_eq_true rfl]
    refine ⟨_, rfl, iteT ?_⟩
    refine ⟨_, rfl, v, _, rfl, hd.mono (e15.trans (s6.trans s7)), r0.1, r0.2.1, r0.2.2, _, rfl, rfl, ?_⟩
    rw [decide_eq_true rfl]
    exact q _ (e15.trans (s6.trans s7))
theorem kn__law_right (D : Def0 K mg "_law_right" (top 71)) (T : TxtE K w mg) (F__law_draw : Kn P w K mg base CX0 "_law_draw" 1 ["pool", "many"] [] spDraw) (F__law_calls : Kn P w K mg base CX0 "_law_calls" 2 ["pool", "many"] [] spCalls) (F__law_heads : Kn P w K mg base CX0 "_law_heads" 2 ["pool", "calls"] [] (spHeads K)) (F__law_fit : Kn P w K mg base CX0 "_law_fit" 23 ["pool", "heads", "kind_here", "deep"] [] (spFit K)) (F__law_filled : Kn P w K mg base CX0 "_law_filled" 11 ["pool", "tree", "kinds_here"] [] (spFill K 8))
    (F__law_swapped : Kn P w K mg base CX0 "_law_swapped" 12 ["pool", "heads", "tree", "deep"] [] (spSwap K 8)) (F__law_told_right : KnG P w K mg base CX0 "_law_told_right" 14 ["tree"] [] (spToldF K)) : KnG P w K mg base CX0 "_law_right" 24 ["pool"] [] spRight := by
  obtain ⟨f, fd, F, m⟩ := D
  have sc_ : FnScope ["pool", "heads", "kind_here", "tree", "full", "bent", "thing"] ["pool"] (defScope (top 71)) := ⟨rfl, rfl, rfl, by decide +kernel, rfl, by decide +kernel, by decide +kernel⟩
  refine kn_ofG F m (okG F sc_ (fun vs H Q E h => ?_) (fun cdv A outer s H vs Q E hr st h => ?_)) (F.bindsN fun _ _ _ _ _ _ us hl => match us, hl with | [_], _ => rfl)
  · obtain ⟨p, rfl, _⟩ := h; rfl
  · obtain ⟨p, rfl, hp, q⟩ := h
    refine ⟨_, PSs.nox (pss_cons (ps_set (i := 1) sc_.nd rfl (by first | exact Or.inl rfl | exact Or.inr rfl) (pe_own F__law_heads hr (by first | decide | omega | (simp only [Nat.add_eq]; omega)) pass0 (pa_cons (pv 0) (pa_cons (pe_own F__law_calls hr (by first | decide | omega | (simp only [Nat.add_eq]; omega)) pass0 (pa_cons (pv 0) (pa_cons (pe_op op_add pe_int (pe_own F__law_draw hr (by first | decide | omega | (simp only [Nat.add_eq]; omega)) pass0 (pa_cons (pv 0) (pa_cons pe_int pa_nil)))) pa_nil))) pa_nil))))
      (pss_cons (ps_for PassesOwn.never rfl (k_list (K := K) (pe_lst (pa_cons pe_str (pa_cons pe_str (pa_cons pe_str (pa_cons pe_str (pa_cons pe_str (pa_cons pe_str pa_nil)))))))) (pg_name (i := 2) sc_.nd rfl (by first | exact Or.inl rfl | exact Or.inr rfl))
        (pss_cons (ps_set (i := 3) sc_.nd rfl (by first | exact Or.inl rfl | exact Or.inr rfl) (pe_own F__law_fit hr (by first | decide | omega | (simp only [Nat.add_eq]; omega)) pass0 (pa_cons (pv 0) (pa_cons (pv 1) (pa_cons (pv 2) (pa_cons (pe_op op_add pe_int (pe_own F__law_draw hr (by first | decide | omega | (simp only [Nat.add_eq]; omega)) pass0 (pa_cons (pv 0) (pa_cons pe_int pa_nil)))) pa_nil))))))
      (pss_cons (ps_set (i := 4) sc_.nd rfl (by first | exact Or.inl rfl | exact Or.inr rfl) (pe_own F__law_filled hr (by first | decide | omega | (simp only [Nat.add_eq]; omega)) pass0 (pa_cons (pv 0) (pa_cons (pv 3) (pa_cons (pe_callTy (k_dictT (K := K) rfl) (by rfl) T.z_dict (by decide +kernel) (pa_cons (pv 1) pa_nil)) pa_nil)))))
      (pss_cons (ps_set (i := 5) sc_.nd rfl (by first | exact Or.inl rfl | exact Or.inr rfl) (pe_own F__law_swapped hr (by first | decide | omega | (simp only [Nat.add_eq]; omega)) pass0 (pa_cons (pv 0) (pa_cons (pv 1) (pa_cons (pv 4) (pa_cons pe_int pa_nil))))))
      (pss_one (ps_for PassesOwn.never rfl (k_list (K := K) (pe_lst (pa_cons (pv 3) (pa_cons (pv 4) (pa_cons (pv 5) (pa_cons (pe_own F__law_swapped hr (by first | decide | omega | (simp only [Nat.add_eq]; omega)) pass0 (pa_cons (pv 0) (pa_cons (pv 1) (pa_cons (pv 5) (pa_cons pe_int pa_nil))))) pa_nil)))))) (pg_name (i := 6) sc_.nd rfl (by first | exact Or.inl rfl | exact Or.inr rfl))
        (pss_one (ps_if (pt_not (pt_val (pe_ownG F__law_told_right hr st (by decide) pass0 (pa_cons (pv 6) pa_nil)))) (pss_one (ps_ret pe_bl)) pss_nil))))))))
      (pss_one (ps_ret pe_bl)))), ?_⟩
    refine ⟨_, rfl, _, rfl, _, rfl, p, 6, rfl, hp, by decide, by decide, fun n H1 hn0 hn1 e1 => ⟨_, _, rfl, rfl, p, 1 + n, rfl, e1 _ _ hp, by omega, by omega, fun l names H2 hl hok hnd e2 h2 => ?_⟩⟩
    refine ⟨p, l, names, rfl, (e1.trans e2) _ _ hp, h2, (by rintro rfl; simp at hl; omega), by omega, hok, fun v cols H3 hc hk e3 hd hB => ?_⟩
    have hlen : cols.length = names.length := by rw [← hc, List.length_map]
    obtain ⟨ha, xs, rfl, hsx, hxx⟩ := hd.tupI
    obtain ⟨ps, rfl, hps⟩ := cols_paired hxx
    have hcok : colsOk cols := ⟨by rintro rfl; simp at hlen; omega, by omega, fun c h => ⟨hok _ (by rw [← hc]; exact List.mem_map_of_mem h), hk c h⟩, by rw [hc]; exact hnd⟩
    have e13 := (e1.trans e2).trans e3
    refine ⟨l2k 6 (by decide), fun t1 ht1 => ?_⟩
    have s4 := same_new ht1 (o := .lst [.str "int", .str "text", .str "bool", .str "bool", .str "int", .str "bool"])
    have e14 := e13.trans s4
    have hp4 := e14 _ _ hp
    have hd4 := hd.mono s4
    have hB4 := hB.mono s4
    have hs4 := same_t s4 hsx
    have hps4 := (cols_paired (DaL.mono s4 hxx))
    have hl4 : SqL K (upd H3 t1 (.lst [.str "int", .str "text", .str "bool", .str "bool", .str "int", .str "bool"])) t1 ((["int", "text", "bool", "bool", "int", "bool"] : List Str).map V.str) := SqL.of upd_same
    generalize upd H3 t1 (.lst [.str "int", .str "text", .str "bool", .str "bool", .str "int", .str "bool"]) = H4 at s4 e14 hp4 hd4 hB4 hl4 hs4 hps4 ⊢
    refine ⟨t1, rfl, ⟨_, hl4⟩, ?_⟩
    refine for_it (walk_list (K := K) (a := t1) (xs := (["int", "text", "bool", "bool", "int", "bool"] : List Str).map V.str)) (fun i σ H' => Same H4 H' ∧ ∃ o2 o3 o4 o5 o6, σ = [some (.ref p), some (.ref ha), o2, o3, o4, o5, o6]) ⟨Same.refl _, _, _, _, _, _, rfl⟩ (fun i σ H' _ h => Same.seq h.1 hl4) ?_ ?_
    · rintro i x σ H5 H6 hi ⟨e5, o2, o3, o4, o5, o6, rfl⟩ ⟨rfl, hx⟩
      rw [List.getElem?_map, Option.map_eq_some_iff] at hx
      obtain ⟨kd, hkd, rfl⟩ := hx
      have hkk : kindS kd = true := List.all_eq_true.mp (by decide +kernel : (["int", "text", "bool", "bool", "int", "bool"] : List Str).all kindS = true) _ (List.mem_of_getElem? hkd)
      have hp5 := e5 _ _ hp4
      refine ⟨_, rfl, _, rfl, _, rfl, _, rfl, p, 4, rfl, hp5, by decide, by decide, fun d H7 hd0 hd1 e7 => ⟨_, _, rfl, rfl, ?_⟩⟩
      have e47 := e5.trans e7
      refine ⟨p, .ref ha, cols, kd, 2 + d, rfl, e47 _ _ hp4, hd4.mono e47, hcok, hkk, by omega, fun tv te H8 hfit e8 htv => ?_⟩
      have hsrc : Src te := ⟨hfit.1, hfit.2.1, hfit.2.2.1, hfit.2.2.2.2⟩
      have e48 := e47.trans e8
      obtain ⟨ps', hpe, hps'⟩ := cols_paired (DaL.mono (s4.trans e48) hxx)
      have hpp : ps = ps' := by
        have := congrArg (List.map fun v => match v with | V.ref a => a | _ => 0) hpe
        simpa [List.map_map, Function.comp_def] using this
      subst hpp
      refine ⟨_, rfl, _, rfl, _, rfl, ha, ps, kvsOf cols, rfl, same_t e48 hs4, hB4.mono e48, hps', fun dp hdp => ?_⟩
      rw [merge_cols hcok.2.2.2]
      have s9 := same_new hdp (o := .dK (kvsOf cols))
      have e49 := e48.trans s9
      refine ⟨p, tv, te, dp, cols, rfl, e49 _ _ hp4, htv.mono s9, hsrc, upd_same, fun c h => (hcok.2.2.1 c h).2, ⟨kd, hfit.2.2.2.1⟩, hsrc.2.2.1, fun fv fe H10 hsf hlf e10 hfv => ?_⟩
      have e410 := e49.trans e10
      refine ⟨_, rfl, _, rfl, _, rfl, p, .ref ha, cols, fv, fe, 6, rfl, e410 _ _ hp4, hd4.mono e410, hcok, hfv, hsf, by decide, by decide, hsf.2.2.1, fun bv be H11 hsb hlb e11 hbv => ?_⟩
      have e411 := e410.trans e11
      refine ⟨_, rfl, _, rfl, _, rfl, _, rfl, _, rfl, _, rfl, p, .ref ha, cols, bv, be, 6, rfl, e411 _ _ hp4, hd4.mono e411, hcok, hbv, hsb, by decide, by decide, hsb.2.2.1, fun cv ce H12 hsc hlc e12 hcv => ⟨l2k 4 (by decide), fun t5 ht5 => ?_⟩⟩
      have s13 := same_new ht5 (o := .lst [tv, fv, bv, cv])
      have e413 := (e411.trans e12).trans s13
      have hlist : SqL K (upd H12 t5 (.lst [tv, fv, bv, cv])) t5 [tv, fv, bv, cv] := SqL.of upd_same
      have h1 := (((htv.mono s9).mono e10).mono e11).mono (e12.trans s13)
      have h2 := (hfv.mono e11).mono (e12.trans s13)
      have h3 := hbv.mono (e12.trans s13)
      have h4 := hcv.mono s13
      generalize upd H12 t5 (.lst [tv, fv, bv, cv]) = H13 at e413 hlist h1 h2 h3 h4 ⊢
      refine ⟨t5, rfl, ⟨_, hlist⟩, ?_⟩
      refine for_it (walk_list (K := K) (a := t5) (xs := [tv, fv, bv, cv])) (fun i σ H' => Same H13 H' ∧ ∃ o6, σ = [some (.ref p), some (.ref ha), some (.str kd), some tv, some fv, some bv, o6]) ⟨Same.refl _, _, rfl⟩ (fun i σ H' _ h => Same.seq h.1 hlist) ?_ ?_
      · rintro j y σ H14 H15 hj ⟨e14', o6, rfl⟩ ⟨rfl, hy⟩
        obtain ⟨ye, hys, hyd⟩ : ∃ ye, Src ye ∧ Da K H13 y ye.d := by
          match j, hj, hy with
          | 0, _, hy => simp at hy; subst hy; exact ⟨te, hsrc, h1⟩
          | 1, _, hy => simp at hy; subst hy; exact ⟨fe, hsf, h2⟩
          | 2, _, hy => simp at hy; subst hy; exact ⟨be, hsb, h3⟩
          | 3, _, hy => simp at hy; subst hy; exact ⟨ce, hsc, h4⟩
        exact ⟨_, rfl, y, ye, rfl, hyd.mono e14', hys, fun H16 e16 => ⟨_, rfl, iteF ⟨e14'.trans e16, _, rfl⟩⟩⟩
      · rintro σ H14 ⟨e14', o6, rfl⟩
        exact ⟨e413.trans e14', _, _, _, _, _, rfl⟩
    · rintro σ H5 ⟨e5, o2, o3, o4, o5, o6, rfl⟩
      exact q _ (e14.trans e5)
end
end Z
set_option Elab.async false
set_option linter.all false
set_option autoImplicit false
set_option maxRecDepth 100000
set_option maxHeartbeats 4000000
namespace Z
open PySem PySem.Spec PyProof.Rows L2
theorem seq_asg {te : TE} {g : TG} {u : TS} {D : Ends} {σ : L2.St} {H : Hp} (h : te σ H (fun x H1 => g x σ H1 (u D))) : tSeq (tAsg te g) u D σ H := h
theorem lst_go {ta : TA} {σ : L2.St} {H : Hp} {Q : VK} (h : ta σ H fun vs H1 => vs.length ≤ sizeLine ∧ ∀ p, H1 p = none → Q (.ref p) (upd H1 p (.lst vs))) : tLst ta σ H Q := h
theorem op_go {r : R2} {ta tb : TE} {σ : L2.St} {H : Hp} {Q : VK} (h : ta σ H fun x H1 => tb σ H1 fun y H2 => r x y H2 Q) : tOp r ta tb σ H Q := h
theorem seq_par3 {i j l : Nat} {ta : TA} {u : TS} {D : Ends} {σ : L2.St} {H : Hp} (h : ta σ H fun vs H1 => ∃ a b c, vs = [a, b, c] ∧ u D (((σ.set i (some a)).set j (some b)).set l (some c)) H1) : tSeq (tPar3 i j l ta) u D σ H := h
theorem cat_step {K : PySem.W.Frag} {σ : L2.St} {H : Hp} {ta : TA} {ds es : List PyData} {ws : List V} {l : Addr} {i : Nat} {Q : VK} (h8 : σ[i]? = some (some (.ref l))) (hl : H l = some (.lst ws)) (hd : DaL K H ws ds) (ha : SdA K σ H ta es) (hn : ds.length + es.length ≤ 1000)
    (q : ∀ p H' vs, Same H H' → H' p = some (.lst vs) → DaL K H' vs (ds ++ es) → Q (.ref p) H') : tOp rCat (tVar i) (tLst ta) σ H Q := by
  have hz := sizeLine_eq
  refine op_go ⟨_, h8, lst_go (ha.go fun w2 H4 e4 hw2 => ⟨by rw [hw2.length]; omega, fun l2 hl2 => ?_⟩)⟩
  have s4 := same_new hl2 (o := .lst w2)
  have e04 := e4.trans s4
  refine ⟨l, l2, ws, w2, rfl, rfl, e04 _ _ hl, upd_same, by rw [hd.length, hw2.length]; omega, fun l3 hl3 => ?_⟩
  have s5 := same_new hl3 (o := .lst (ws ++ w2))
  exact q l3 _ _ (e04.trans s5) upd_same (DaL.cat (DaL.mono (e04.trans s5) hd) (DaL.mono (s4.trans s5) hw2))
def xY : Ex := .val "bool" (.bool true)
def xN : Ex := .val "bool" (.bool false)
def xO : Ex := .val "bool" .none
def xP : Ex := .col "p"
def x1 : Ex := .val "int" (.int 1)
def x2 : Ex := .val "int" (.int 2)
def xT : Ex := .val "text" (.str "x")
def pD (p : Ex × Option Ex) : PyData := .tuple [p.1.d, match p.2 with | some e => e.d | none => .none]
def p0 : List (Ex × Option Ex) := [(.two "and" xY xP, some xP), (.two "and" xP xN, some xN), (.two "or" xP xN, some xP), (.two "or" xY xP, some xY)]
def pA : Ex × Option Ex := (.two "and" xO xP, none)
def p1 : List (Ex × Option Ex) := [(.two "and" xN xO, some xN), (.two "and" x1 xY, some x1), (.two "or" xN xT, some xT)]
def p2 : List (Ex × Option Ex) := [(.one "not" (.one "not" xP), some xP), (.one "not" (.one "not" (.one "not" xP)), some (.one "not" xP)), (.one "not" x1, none)]
def p3 : List (Ex × Option Ex) := [(.ife xO x1 x2, some x2), (.ife xY xP x1, some xP), (.ife x1 xP x2, some x2)]
def p4 : List (Ex × Option Ex) := [(.two "else" (.val "int" .none) xP, some xP), (.two "else" x1 xT, some x1), (.two "else" xP x1, none)]
def p5 : List (Ex × Option Ex) := [(.two "add" x1 xT, none), (.two "eq" x1 xT, none), (.two "eq" x1 x2, some xN)]
def p6 : List (Ex × Option Ex) := [(.two "div" x1 (.val "int" (.int 0)), some (.val "int" .none)), (.one "size" x1, none)]
def p7 : List (Ex × Option Ex) := [(.one "there" xT, some xY), (.two "lt" xN xY, some xY), (.two "and" (.one "there" x1) xP, some xP)]
def pAll : List (Ex × Option Ex) := (((((((p0 ++ [pA]) ++ p1) ++ p2) ++ p3) ++ p4) ++ p5) ++ p6) ++ p7
def bdB : PyData → Bool
  | .int i => decide (i.natAbs < 2 ^ 44)
  | .str z => decide (z.length ≤ 40)
  | _ => true
theorem bdB_ok {d : PyData} (h : bdB d = true) : Bd 1 d := by
  cases d with
  | int i => exact (of_decide_eq_true h : i.natAbs < 2 ^ 44)
  | str z => exact (of_decide_eq_true h : z.length ≤ 40)
  | _ => trivial
def Ex.bdB : Ex → Bool
  | .col _ => true
  | .val _ v => Z.bdB v
  | .one _ x => x.bdB
  | .two _ x y => x.bdB && y.bdB
  | .ife x y z => x.bdB && (y.bdB && z.bdB)
theorem Ex.bdB_ok : ∀ {e : Ex}, e.bdB = true → e.bd 1
  | .col _, _ => trivial
  | .val _ _, h => Z.bdB_ok h
  | .one _ x, h => Ex.bdB_ok (e := x) h
  | .two _ x y, h => by simp only [Ex.bdB, Bool.and_eq_true] at h; exact ⟨Ex.bdB_ok h.1, Ex.bdB_ok h.2⟩
  | .ife x y z, h => by simp only [Ex.bdB, Bool.and_eq_true] at h; exact ⟨Ex.bdB_ok h.1, Ex.bdB_ok h.2.1, Ex.bdB_ok h.2.2⟩
def srcB (e : Ex) : Bool := e.wf && (decide (e.nodes ≤ 40) && (decide (e.levels ≤ 8) && e.bdB))
theorem srcB_ok {e : Ex} (h : srcB e = true) : Src e := by
  simp only [srcB, Bool.and_eq_true, decide_eq_true_eq] at h
  exact ⟨h.1, h.2.1, h.2.2.1, Ex.bdB_ok h.2.2.2⟩
theorem pAll_src : (pAll.all fun p => srcB p.1) = true := by decide +kernel
theorem pAll_due : pAll.map (fun p => p.2.getD p.1) = pAll.map (fun p => foldE p.1) := by kernel_rfl
theorem p0_pure : pureD.pureL (p0.map pD) = true := by decide +kernel
def spLaw (K : PySem.W.Frag) : Sp := fun vs H Q _ => ∃ (a : Addr) (ns : List Int), vs = [.ref a] ∧ SqL K H a (ns.map V.int) ∧ ns.length ≤ 63 ∧ ∀ H', Q (.bl true) H'
section
variable {P : Program} {w : World} {K : PySem.W.Frag} {mg : Str → Option Value} {base : Heap} {C : Addr}
theorem ok_law {f : Addr} {fd : FuncData} (F : FnP K "law" (top 72) f fd) (T : TxtE K w mg) (zrepr : mg "repr" = none) (F__law_cell : Kn P w K mg base CX0 "_law_cell" 1 ["script", "k"] [] (spLCell K)) (F__law_pool : Kn P w K mg base CX0 "_law_pool" 1 ["cell"] [] spPool)
    (F__law_right : KnG P w K mg base CX0 "_law_right" 24 ["pool"] [] spRight) (F_folded : Kn P w K mg base CX0 "folded" 13 ["expression"] [] (spFolded K)) (F__law_told_right : KnG P w K mg base CX0 "_law_told_right" 14 ["tree"] [] (spToldF K)) : FnG P w K mg base CX0 25 f fd ["script"] (spLaw K) := by
  have sc_ : FnScope ["script", "yes", "no", "none", "p", "one", "two", "text_here", "some", "tree", "due", "k"] ["script"] (defScope (top 72)) := ⟨rfl, rfl, rfl, by decide +kernel, rfl, by decide +kernel, by decide +kernel⟩
  refine okG F sc_ (fun vs H Q E h => ?_) (fun cdv A outer s H vs Q E hr st h => ?_)
  · obtain ⟨a, ns, rfl, _⟩ := h; rfl
  · obtain ⟨a, ns, rfl, hS, hn, q⟩ := h
    refine ⟨_, PSs.nox (pss_cons (ps_asg (pe_tup (pa_cons (pe_tup (pa_cons pe_str (pa_cons pe_str (pa_cons pe_bl pa_nil)))) (pa_cons (pe_tup (pa_cons pe_str (pa_cons pe_str (pa_cons pe_bl pa_nil)))) (pa_cons (pe_tup (pa_cons pe_str (pa_cons pe_str (pa_cons pe_non pa_nil)))) (pa_cons (pe_tup (pa_cons pe_str (pa_cons pe_str pa_nil))) pa_nil))))) (k_pgT (K := K) (pgs_cons (pg_name (i := 1) sc_.nd rfl (by first | exact Or.inl rfl | exact Or.inr rfl)) (pgs_cons (pg_name (i := 2) sc_.nd rfl (by first | exact Or.inl rfl | exact Or.inr rfl)) (pgs_cons (pg_name (i := 3) sc_.nd rfl (by first | exact Or.inl rfl | exact Or.inr rfl)) (pgs_cons (pg_name (i := 4) sc_.nd rfl (by first | exact Or.inl rfl | exact Or.inr rfl)) pgs_nil))))))
      (pss_cons (ps_asg (pe_tup (pa_cons (pe_tup (pa_cons pe_str (pa_cons pe_str (pa_cons pe_int pa_nil)))) (pa_cons (pe_tup (pa_cons pe_str (pa_cons pe_str (pa_cons pe_int pa_nil)))) (pa_cons (pe_tup (pa_cons pe_str (pa_cons pe_str (pa_cons pe_str pa_nil)))) pa_nil)))) (k_pgT (K := K) (pgs_cons (pg_name (i := 5) sc_.nd rfl (by first | exact Or.inl rfl | exact Or.inr rfl)) (pgs_cons (pg_name (i := 6) sc_.nd rfl (by first | exact Or.inl rfl | exact Or.inr rfl)) (pgs_cons (pg_name (i := 7) sc_.nd rfl (by first | exact Or.inl rfl | exact Or.inr rfl)) pgs_nil)))))
      (pss_cons (ps_set (i := 8) sc_.nd rfl (by first | exact Or.inl rfl | exact Or.inr rfl) (pe_lst (pa_cons (pe_tup (pa_cons (pe_tup (pa_cons pe_str (pa_cons (pv 1) (pa_cons (pv 4) pa_nil)))) (pa_cons (pv 4) pa_nil))) (pa_cons (pe_tup (pa_cons (pe_tup (pa_cons pe_str (pa_cons (pv 4) (pa_cons (pv 2) pa_nil)))) (pa_cons (pv 2) pa_nil))) (pa_cons (pe_tup (pa_cons (pe_tup (pa_cons pe_str (pa_cons (pv 4) (pa_cons (pv 2) pa_nil)))) (pa_cons (pv 4) pa_nil))) (pa_cons (pe_tup (pa_cons (pe_tup (pa_cons pe_str (pa_cons (pv 1) (pa_cons (pv 4) pa_nil)))) (pa_cons (pv 1) pa_nil))) pa_nil))))))
      (pss_cons (ps_expr (k_bm (K := K) PySem.F.plainAttrs_list PySem.F.slot_list_append PySem.F.type_list_append mt_append (pv 8) (pa_cons (pe_tup (pa_cons (pe_tup (pa_cons pe_str (pa_cons (pv 3) (pa_cons (pv 4) pa_nil)))) (pa_cons pe_non pa_nil))) pa_nil)))
      (pss_cons (ps_set (i := 8) sc_.nd rfl (by first | exact Or.inl rfl | exact Or.inr rfl) (pe_op op_cat (pv 8) (pe_lst (pa_cons (pe_tup (pa_cons (pe_tup (pa_cons pe_str (pa_cons (pv 2) (pa_cons (pv 3) pa_nil)))) (pa_cons (pv 2) pa_nil))) (pa_cons (pe_tup (pa_cons (pe_tup (pa_cons pe_str (pa_cons (pv 5) (pa_cons (pv 1) pa_nil)))) (pa_cons (pv 5) pa_nil))) (pa_cons (pe_tup (pa_cons (pe_tup (pa_cons pe_str (pa_cons (pv 2) (pa_cons (pv 7) pa_nil)))) (pa_cons (pv 7) pa_nil))) pa_nil))))))
      (pss_cons (ps_set (i := 8) sc_.nd rfl (by first | exact Or.inl rfl | exact Or.inr rfl) (pe_op op_cat (pv 8) (pe_lst (pa_cons (pe_tup (pa_cons (pe_tup (pa_cons pe_str (pa_cons (pe_tup (pa_cons pe_str (pa_cons (pv 4) pa_nil))) pa_nil))) (pa_cons (pv 4) pa_nil))) (pa_cons (pe_tup (pa_cons (pe_tup (pa_cons pe_str (pa_cons (pe_tup (pa_cons pe_str (pa_cons (pe_tup (pa_cons pe_str (pa_cons (pv 4) pa_nil))) pa_nil))) pa_nil))) (pa_cons (pe_tup (pa_cons pe_str (pa_cons (pv 4) pa_nil))) pa_nil))) (pa_cons (pe_tup (pa_cons (pe_tup (pa_cons pe_str (pa_cons (pv 5) pa_nil))) (pa_cons pe_non pa_nil))) pa_nil))))))
      (pss_cons (ps_set (i := 8) sc_.nd rfl (by first | exact Or.inl rfl | exact Or.inr rfl) (pe_op op_cat (pv 8) (pe_lst (pa_cons (pe_tup (pa_cons (pe_tup (pa_cons pe_str (pa_cons (pv 3) (pa_cons (pv 5) (pa_cons (pv 6) pa_nil))))) (pa_cons (pv 6) pa_nil))) (pa_cons (pe_tup (pa_cons (pe_tup (pa_cons pe_str (pa_cons (pv 1) (pa_cons (pv 4) (pa_cons (pv 5) pa_nil))))) (pa_cons (pv 4) pa_nil))) (pa_cons (pe_tup (pa_cons (pe_tup (pa_cons pe_str (pa_cons (pv 5) (pa_cons (pv 4) (pa_cons (pv 6) pa_nil))))) (pa_cons (pv 6) pa_nil))) pa_nil))))))
      (pss_cons (ps_set (i := 8) sc_.nd rfl (by first | exact Or.inl rfl | exact Or.inr rfl) (pe_op op_cat (pv 8) (pe_lst (pa_cons (pe_tup (pa_cons (pe_tup (pa_cons pe_str (pa_cons (pe_tup (pa_cons pe_str (pa_cons pe_str (pa_cons pe_non pa_nil)))) (pa_cons (pv 4) pa_nil)))) (pa_cons (pv 4) pa_nil))) (pa_cons (pe_tup (pa_cons (pe_tup (pa_cons pe_str (pa_cons (pv 5) (pa_cons (pv 7) pa_nil)))) (pa_cons (pv 5) pa_nil))) (pa_cons (pe_tup (pa_cons (pe_tup (pa_cons pe_str (pa_cons (pv 4) (pa_cons (pv 5) pa_nil)))) (pa_cons pe_non pa_nil))) pa_nil))))))
      (pss_cons (ps_set (i := 8) sc_.nd rfl (by first | exact Or.inl rfl | exact Or.inr rfl) (pe_op op_cat (pv 8) (pe_lst (pa_cons (pe_tup (pa_cons (pe_tup (pa_cons pe_str (pa_cons (pv 5) (pa_cons (pv 7) pa_nil)))) (pa_cons pe_non pa_nil))) (pa_cons (pe_tup (pa_cons (pe_tup (pa_cons pe_str (pa_cons (pv 5) (pa_cons (pv 7) pa_nil)))) (pa_cons pe_non pa_nil))) (pa_cons (pe_tup (pa_cons (pe_tup (pa_cons pe_str (pa_cons (pv 5) (pa_cons (pv 6) pa_nil)))) (pa_cons (pv 2) pa_nil))) pa_nil))))))
      (pss_cons (ps_set (i := 8) sc_.nd rfl (by first | exact Or.inl rfl | exact Or.inr rfl) (pe_op op_cat (pv 8) (pe_lst (pa_cons (pe_tup (pa_cons (pe_tup (pa_cons pe_str (pa_cons (pv 5) (pa_cons (pe_tup (pa_cons pe_str (pa_cons pe_str (pa_cons pe_int pa_nil)))) pa_nil)))) (pa_cons (pe_tup (pa_cons pe_str (pa_cons pe_str (pa_cons pe_non pa_nil)))) pa_nil))) (pa_cons (pe_tup (pa_cons (pe_tup (pa_cons pe_str (pa_cons (pv 5) pa_nil))) (pa_cons pe_non pa_nil))) pa_nil)))))
      (pss_cons (ps_set (i := 8) sc_.nd rfl (by first | exact Or.inl rfl | exact Or.inr rfl) (pe_op op_cat (pv 8) (pe_lst (pa_cons (pe_tup (pa_cons (pe_tup (pa_cons pe_str (pa_cons (pv 7) pa_nil))) (pa_cons (pv 1) pa_nil))) (pa_cons (pe_tup (pa_cons (pe_tup (pa_cons pe_str (pa_cons (pv 2) (pa_cons (pv 1) pa_nil)))) (pa_cons (pv 1) pa_nil))) (pa_cons (pe_tup (pa_cons (pe_tup (pa_cons pe_str (pa_cons (pe_tup (pa_cons pe_str (pa_cons (pv 5) pa_nil))) (pa_cons (pv 4) pa_nil)))) (pa_cons (pv 4) pa_nil))) pa_nil))))))
      (pss_cons (ps_for PassesOwn.never rfl (k_list (K := K) (pv 8)) (k_pgT (K := K) (pgs_cons (pg_name (i := 9) sc_.nd rfl (by first | exact Or.inl rfl | exact Or.inr rfl)) (pgs_cons (pg_name (i := 10) sc_.nd rfl (by first | exact Or.inl rfl | exact Or.inr rfl)) pgs_nil)))
        (pss_one (ps_if (PW.pt (pw_or (pt_cmpR op_ne (pe_callB (k_repr (K := K) hr st) (by rfl) zrepr (by decide +kernel) (pa_cons (pe_own F_folded hr (by first | decide | omega | (simp only [Nat.add_eq]; omega)) pass0 (pa_cons (pv 9) pa_nil)) pa_nil)) (pe_callB (k_repr (K := K) hr st) (by rfl) zrepr (by decide +kernel) (pa_cons (pe_ifExp (pt_cmpR op_isN (pv 10) pe_non (nomark _)) (pv 9) (pv 10)) pa_nil)) (nomark _)) (pw_or1 (pt_not (pt_val (pe_ownG F__law_told_right hr st (by decide) pass0 (pa_cons (pv 9) pa_nil))))))) (pss_one (ps_ret pe_bl)) pss_nil)))
      (pss_one (ps_ret (pe_callB (k_all (K := K) rfl) (by rfl) T.z_all (by decide +kernel) (pa_cons (pe_lc (own := [("k", 11)]) (g := gName 11) (by rfl) sc_.nd (pi_range1 (by rfl) T.z_range (pa_cons (pe_callB (call_max2 rfl) (by rfl) T.z_max (by decide +kernel) (pa_cons pe_int (pa_cons (pe_callB (call_min2 rfl) (by rfl) T.z_min (by decide +kernel) (pa_cons (pe_callB (k_len (K := K)) (by rfl) T.z_len (by decide +kernel) (pa_cons (pv 0) pa_nil)) (pa_cons pe_int pa_nil))) pa_nil))) pa_nil)) (blkOk_by (N := ["script", "yes", "no", "none", "p", "one", "two", "text_here", "some", "tree", "due", "k"]) (sc := defScope (top 72)) (by decide +kernel)) (fun _ _ _ _ _ => (pg_name (i := 11) sc_.nd rfl (by first | exact Or.inl rfl | exact Or.inr rfl))) (fun _ _ _ _ _ => pts_nil) (fun _ _ _ _ _ => (pe_ownG F__law_right hr st (by decide) pass0 (pa_cons (pe_own F__law_pool hr (by first | decide | omega | (simp only [Nat.add_eq]; omega)) pass0 (pa_cons (pe_own F__law_cell hr (by first | decide | omega | (simp only [Nat.add_eq]; omega)) pass0 (pa_cons (pv 0) (pa_cons (pv 11) pa_nil))) pa_nil)) pa_nil)))) pa_nil)))))))))))))))), ?_⟩
    refine seq_asg ?_
    refine Sd.go (K := K) (d := .tuple [xY.d, xN.d, xO.d, xP.d]) (by repeat' first | exact sda_nil | refine sda_cons ?_ ?_ | exact sd_str (by decide +kernel) | exact sd_int | exact sd_bl | exact sd_non | exact sd_var rfl (by assumption) | refine sd_tup ?_ (by decide) | refine sd_lst ?_ (by decide)) (fun uv H1 e1 hu => ?_)
    obtain ⟨ua, us, rfl, hu1, hu⟩ := hu.tupI
    obtain ⟨y1, us1, rfl, hy1, hu⟩ := hu.consI
    obtain ⟨y2, us2, rfl, hy2, hu⟩ := hu.consI
    obtain ⟨y3, us3, rfl, hy3, hu⟩ := hu.consI
    obtain ⟨y4, us4, rfl, hy4, hu⟩ := hu.consI
    cases hu.nilI
    refine ⟨ua, _, rfl, hu1, rfl, _, _, rfl, _, _, rfl, _, _, rfl, _, _, rfl, rfl, ?_⟩
    change tSeq _ _ _ [some (.ref a), some y1, some y2, some y3, some y4, none, none, none, none, none, none, none] _
    refine seq_asg ?_
    refine Sd.go (K := K) (d := .tuple [x1.d, x2.d, xT.d]) (by repeat' first | exact sda_nil | refine sda_cons ?_ ?_ | exact sd_str (by decide +kernel) | exact sd_int | exact sd_bl | exact sd_non | exact sd_var rfl (by assumption) | refine sd_tup ?_ (by decide) | refine sd_lst ?_ (by decide)) (fun wv H2 e2 hw => ?_)
    obtain ⟨wa, ws, rfl, hw1, hw⟩ := hw.tupI
    obtain ⟨y5, us1, rfl, hy5, hw⟩ := hw.consI
    obtain ⟨y6, us2, rfl, hy6, hw⟩ := hw.consI
    obtain ⟨y7, us3, rfl, hy7, hw⟩ := hw.consI
    cases hw.nilI
    refine ⟨wa, _, rfl, hw1, rfl, _, _, rfl, _, _, rfl, _, _, rfl, rfl, ?_⟩
    clear hw1
    change tSeq _ _ _ [some (.ref a), some y1, some y2, some y3, some y4, some y5, some y6, some y7, none, none, none, none] _
    replace hy1 := hy1.mono e2
    replace hy2 := hy2.mono e2
    replace hy3 := hy3.mono e2
    replace hy4 := hy4.mono e2
    have e02 := e1.trans e2
    refine seq_asg (lst_go ?_)
    refine SdA.go (K := K) (ds := p0.map pD) (by repeat' first | exact sda_nil | refine sda_cons ?_ ?_ | exact sd_str (by decide +kernel) | exact sd_int | exact sd_bl | exact sd_non | exact sd_var rfl (by assumption) | refine sd_tup ?_ (by decide) | refine sd_lst ?_ (by decide)) (fun w1 H3 e3 hw1 => ⟨by rw [hw1.length]; exact l2k 4 (by decide), fun l1 hl1 => ?_⟩)
    have s4 := same_new hl1 (o := .lst w1)
    have e34 := e3.trans s4
    have hw4 := DaL.mono s4 hw1
    have hl4 : (upd H3 l1 (.lst w1)) l1 = some (.lst w1) := upd_same
    have hw1l : w1.length = 4 := by rw [hw1.length]; rfl
    replace hy1 := hy1.mono e34
    replace hy2 := hy2.mono e34
    replace hy3 := hy3.mono e34
    replace hy4 := hy4.mono e34
    replace hy5 := hy5.mono e34
    replace hy6 := hy6.mono e34
    replace hy7 := hy7.mono e34
    have e04 := e02.trans e34
    generalize upd H3 l1 (.lst w1) = H4 at hw4 hl4 hy1 hy2 hy3 hy4 hy5 hy6 hy7 e04
    change tSeq _ _ _ [some (.ref a), some y1, some y2, some y3, some y4, some y5, some y6, some y7, some (.ref l1), none, none, none] _
    refine ⟨_, rfl, .inl ⟨rfl, _, SqL.of hl4⟩, _, rfl, _, rfl, l2k 3 (by decide), fun t ht => ⟨l2k 2 (by decide), fun t' ht' => ?_⟩⟩
    have s5 := same_new ht (o := .tup [.str "and", y3, y4])
    have s6 := same_new ht' (o := .tup [.ref t, .non])
    have s56 := s5.trans s6
    have hl6 := s56 _ _ hl4
    refine ⟨l1, w1, _, rfl, rfl, hl6, by rw [hw1l]; decide, ?_⟩
    have sT0 : SameT (upd (upd H4 t (.tup [.str "and", y3, y4])) t' (.tup [.ref t, .non])) (upd (upd (upd H4 t (.tup [.str "and", y3, y4])) t' (.tup [.ref t, .non])) l1 (.lst (w1 ++ [.ref t']))) := sameT_list hl6
    have sT : SameT H4 (upd (upd (upd H4 t (.tup [.str "and", y3, y4])) t' (.tup [.ref t, .non])) l1 (.lst (w1 ++ [.ref t']))) := (Same.t s56).trans sT0
    have hl1n : H l1 = none := by
      cases hq : H l1 with
      | none => rfl
      | some o => have := (e02.trans e3) _ _ hq; rw [hl1] at this; cases this
    have e07 : Same H (upd (upd (upd H4 t (.tup [.str "and", y3, y4])) t' (.tup [.ref t, .non])) l1 (.lst (w1 ++ [.ref t']))) := same_app (e04.trans s56) hl1n
    have hta : Da K (upd (upd H4 t (.tup [.str "and", y3, y4])) t' (.tup [.ref t, .non])) (.ref t') (pD pA) := .tup (SqT.of upd_same) (.cons (.tup (same_t s6 (SqT.of upd_same)) (.cons (.str _ (by decide +kernel)) (.cons (hy3.mono s56) (.cons (hy4.mono s56) .nil)))) (.cons .non .nil))
    have hw7 : DaL K _ (w1 ++ [.ref t']) (p0.map pD ++ [pD pA]) := DaL.cat (DaL.monoT sT p0_pure hw4) (.cons (Da.monoT sT0 (by decide +kernel) hta) .nil)
    have hl7 : (upd (upd (upd H4 t (.tup [.str "and", y3, y4])) t' (.tup [.ref t, .non])) l1 (.lst (w1 ++ [.ref t']))) l1 = some (.lst (w1 ++ [.ref t'])) := upd_same
    replace hy1 := Da.monoT sT (by decide +kernel) hy1
    replace hy2 := Da.monoT sT (by decide +kernel) hy2
    replace hy3 := Da.monoT sT (by decide +kernel) hy3
    replace hy4 := Da.monoT sT (by decide +kernel) hy4
    replace hy5 := Da.monoT sT (by decide +kernel) hy5
    replace hy6 := Da.monoT sT (by decide +kernel) hy6
    replace hy7 := Da.monoT sT (by decide +kernel) hy7
    generalize upd (upd (upd H4 t (.tup [.str "and", y3, y4])) t' (.tup [.ref t, .non])) l1 (.lst (w1 ++ [.ref t'])) = G0 at hw7 hl7 hy1 hy2 hy3 hy4 hy5 hy6 hy7 e07 ⊢
    generalize w1 ++ [V.ref t'] = v0 at hw7 hl7
    clear hta sT sT0 hl6 s56 s6 s5 ht ht' hl4 hw4 hl1 hw1
    change tSeq _ _ _ [some (.ref a), some y1, some y2, some y3, some y4, some y5, some y6, some y7, some (.ref l1), none, none, none] _
    refine seq_asg (cat_step (i := 8) rfl hl7 hw7 (es := p1.map pD) (by repeat' first | exact sda_nil | refine sda_cons ?_ ?_ | exact sd_str (by decide +kernel) | exact sd_int | exact sd_bl | exact sd_non | exact sd_var rfl (by assumption) | refine sd_tup ?_ (by decide) | refine sd_lst ?_ (by decide)) (by decide) fun m1 G1 v1 g1 hm1 hv1 => ?_)
    have d1 := e07.trans g1
    replace hy1 := hy1.mono g1
    replace hy2 := hy2.mono g1
    replace hy3 := hy3.mono g1
    replace hy4 := hy4.mono g1
    replace hy5 := hy5.mono g1
    replace hy6 := hy6.mono g1
    replace hy7 := hy7.mono g1
    change tSeq _ _ _ [some (.ref a), some y1, some y2, some y3, some y4, some y5, some y6, some y7, some (.ref m1), none, none, none] _
    refine seq_asg (cat_step (i := 8) rfl hm1 hv1 (es := p2.map pD) (by repeat' first | exact sda_nil | refine sda_cons ?_ ?_ | exact sd_str (by decide +kernel) | exact sd_int | exact sd_bl | exact sd_non | exact sd_var rfl (by assumption) | refine sd_tup ?_ (by decide) | refine sd_lst ?_ (by decide)) (by decide) fun m2 G2 v2 g2 hm2 hv2 => ?_)
    have d2 := d1.trans g2
    replace hy1 := hy1.mono g2
    replace hy2 := hy2.mono g2
    replace hy3 := hy3.mono g2
    replace hy4 := hy4.mono g2
    replace hy5 := hy5.mono g2
    replace hy6 := hy6.mono g2
    replace hy7 := hy7.mono g2
    change tSeq _ _ _ [some (.ref a), some y1, some y2, some y3, some y4, some y5, some y6, some y7, some (.ref m2), none, none, none] _
    refine seq_asg (cat_step (i := 8) rfl hm2 hv2 (es := p3.map pD) (by repeat' first | exact sda_nil | refine sda_cons ?_ ?_ | exact sd_str (by decide +kernel) | exact sd_int | exact sd_bl | exact sd_non | exact sd_var rfl (by assumption) | refine sd_tup ?_ (by decide) | refine sd_lst ?_ (by decide)) (by decide) fun m3 G3 v3 g3 hm3 hv3 => ?_)
    have d3 := d2.trans g3
    replace hy1 := hy1.mono g3
    replace hy2 := hy2.mono g3
    replace hy3 := hy3.mono g3
    replace hy4 := hy4.mono g3
    replace hy5 := hy5.mono g3
    replace hy6 := hy6.mono g3
    replace hy7 := hy7.mono g3
    change tSeq _ _ _ [some (.ref a), some y1, some y2, some y3, some y4, some y5, some y6, some y7, some (.ref m3), none, none, none] _
    refine seq_asg (cat_step (i := 8) rfl hm3 hv3 (es := p4.map pD) (by repeat' first | exact sda_nil | refine sda_cons ?_ ?_ | exact sd_str (by decide +kernel) | exact sd_int | exact sd_bl | exact sd_non | exact sd_var rfl (by assumption) | refine sd_tup ?_ (by decide) | refine sd_lst ?_ (by decide)) (by decide) fun m4 G4 v4 g4 hm4 hv4 => ?_)
    have d4 := d3.trans g4
    replace hy1 := hy1.mono g4
    replace hy2 := hy2.mono g4
    replace hy3 := hy3.mono g4
    replace hy4 := hy4.mono g4
    replace hy5 := hy5.mono g4
    replace hy6 := hy6.mono g4
    replace hy7 := hy7.mono g4
    change tSeq _ _ _ [some (.ref a), some y1, some y2, some y3, some y4, some y5, some y6, some y7, some (.ref m4), none, none, none] _
    refine seq_asg (cat_step (i := 8) rfl hm4 hv4 (es := p5.map pD) (by repeat' first | exact sda_nil | refine sda_cons ?_ ?_ | exact sd_str (by decide +kernel) | exact sd_int | exact sd_bl | exact sd_non | exact sd_var rfl (by assumption) | refine sd_tup ?_ (by decide) | refine sd_lst ?_ (by decide)) (by decide) fun m5 G5 v5 g5 hm5 hv5 => ?_)
    have d5 := d4.trans g5
    replace hy1 := hy1.mono g5
    replace hy2 := hy2.mono g5
    replace hy3 := hy3.mono g5
    replace hy4 := hy4.mono g5
    replace hy5 := hy5.mono g5
    replace hy6 := hy6.mono g5
    replace hy7 := hy7.mono g5
    change tSeq _ _ _ [some (.ref a), some y1, some y2, some y3, some y4, some y5, some y6, some y7, some (.ref m5), none, none, none] _
    refine seq_asg (cat_step (i := 8) rfl hm5 hv5 (es := p6.map pD) (by repeat' first | exact sda_nil | refine sda_cons ?_ ?_ | exact sd_str (by decide +kernel) | exact sd_int | exact sd_bl | exact sd_non | exact sd_var rfl (by assumption) | refine sd_tup ?_ (by decide) | refine sd_lst ?_ (by decide)) (by decide) fun m6 G6 v6 g6 hm6 hv6 => ?_)
    have d6 := d5.trans g6
    replace hy1 := hy1.mono g6
    replace hy2 := hy2.mono g6
    replace hy3 := hy3.mono g6
    replace hy4 := hy4.mono g6
    replace hy5 := hy5.mono g6
    replace hy6 := hy6.mono g6
    replace hy7 := hy7.mono g6
    change tSeq _ _ _ [some (.ref a), some y1, some y2, some y3, some y4, some y5, some y6, some y7, some (.ref m6), none, none, none] _
    refine seq_asg (cat_step (i := 8) rfl hm6 hv6 (es := p7.map pD) (by repeat' first | exact sda_nil | refine sda_cons ?_ ?_ | exact sd_str (by decide +kernel) | exact sd_int | exact sd_bl | exact sd_non | exact sd_var rfl (by assumption) | refine sd_tup ?_ (by decide) | refine sd_lst ?_ (by decide)) (by decide) fun m7 G7 v7 g7 hm7 hv7 => ?_)
    have d7 := d6.trans g7
    replace hy1 := hy1.mono g7
    replace hy2 := hy2.mono g7
    replace hy3 := hy3.mono g7
    replace hy4 := hy4.mono g7
    replace hy5 := hy5.mono g7
    replace hy6 := hy6.mono g7
    replace hy7 := hy7.mono g7
    change tSeq _ _ _ [some (.ref a), some y1, some y2, some y3, some y4, some y5, some y6, some y7, some (.ref m7), none, none, none] _
    have hall : DaL K G7 v7 (pAll.map pD) := by
      simp only [pAll, List.map_append, List.map_cons, List.map_nil]
      exact hv7
    clear hv7 hv6 hv5 hv4 hv3 hv2 hv1 hw7 hm6 hm5 hm4 hm3 hm2 hm1
    have hm := SqL.of (K := K) hm7
    refine ⟨_, rfl, m7, rfl, ⟨_, hm⟩, ?_⟩
    refine for_it (walk_list (K := K) (a := m7) (xs := v7)) (fun i σ H' => Same G7 H' ∧ ∃ o9 o10, σ = [some (.ref a), some y1, some y2, some y3, some y4, some y5, some y6, some y7, some (.ref m7), o9, o10, none]) ⟨Same.refl _, _, _, rfl⟩ (fun i σ H' _ h => Same.seq h.1 hm) ?_ ?_
    · rintro i x σ H5 H6 hi ⟨e5, o9, o10, rfl⟩ ⟨rfl, hx⟩
      obtain ⟨d, hd1, hd2⟩ := DaL.get hall hx
      rw [List.getElem?_map, Option.map_eq_some_iff] at hd1
      obtain ⟨pr, hpr, rfl⟩ := hd1
      have hsrc : Src pr.1 := srcB_ok (List.all_eq_true.mp pAll_src _ (List.mem_of_getElem? hpr))
      have hdue : pr.2.getD pr.1 = foldE pr.1 := by
        have h3 : (pAll.map (fun p => p.2.getD p.1))[i]? = (pAll.map (fun p => foldE p.1))[i]? := by rw [pAll_due]
        rw [List.getElem?_map, List.getElem?_map, hpr] at h3
        exact Option.some.inj h3
      obtain ⟨r, ys, rfl, g1', g2'⟩ := (show Da K G7 x (.tuple [pr.1.d, match pr.2 with | some e => e.d | none => .none]) from hd2).tupI
      obtain ⟨tv, zs, rfl, htv, g4'⟩ := g2'.consI
      obtain ⟨dv, zs2, rfl, hdv, g6'⟩ := g4'.consI
      cases g6'.nilI
      have rf := repr_1 (repr_ok hsrc.fold (by decide) (by decide) (by decide))
      refine ⟨r, _, rfl, same_t e5 g1', rfl, _, _, rfl, _, _, rfl, rfl, ?_⟩
      have htv5 := htv.mono e5
      refine ⟨_, rfl, tv, pr.1, rfl, htv5, hsrc, fun y H6 e6 hy => ?_⟩
      refine ⟨_, _, rfl, hy, rf.1, rf.2.1, rf.2.2, ?_⟩
      have e56 := e5.trans e6
      refine ⟨_, rfl, rfl, _, rfl, ?_⟩
      cases hp2 : pr.2 with
      | none =>
        rw [hp2] at hdue hdv
        cases hdv
        have hde : pr.1 = foldE pr.1 := hdue
        have hpd : Da K H6 tv (foldE pr.1).d := by rw [← hde]; exact htv5.mono e6
        refine iteT ⟨_, rfl, tv, _, rfl, hpd, rf.1, rf.2.1, rf.2.2, rfl, ?_⟩
        refine ⟨_, rfl, ?_⟩
        rw [decide_eq_true rfl]
        refine iteF ⟨_, rfl, tv, pr.1, rfl, htv5.mono e6, hsrc, fun H7 e7 => ⟨_, rfl, iteF ⟨e56.trans e7, _, _, rfl⟩⟩⟩
      | some due =>
        rw [hp2] at hdue hdv
        have hde : due = foldE pr.1 := hdue
        subst hde
        have hnn : dv ≠ .non := by
          intro c; subst c
          have : Da K G7 V.non (foldE pr.1).d := hdv
          rw [Ex.d_items] at this
          cases this
        rw [decide_eq_false hnn]
        refine iteF ⟨_, rfl, dv, _, rfl, (show Da K G7 dv (foldE pr.1).d from hdv).mono e56, rf.1, rf.2.1, rf.2.2, rfl, ?_⟩
        refine ⟨_, rfl, ?_⟩
        rw [decide_eq_true rfl]
        refine iteF ⟨_, rfl, tv, pr.1, rfl, htv5.mono e6, hsrc, fun H7 e7 => ⟨_, rfl, iteF ⟨e56.trans e7, _, _, rfl⟩⟩⟩
    · rintro σ H5 ⟨e5, o9, o10, rfl⟩
      have hS2 := Same.seq (d7.trans e5) hS
      refine ⟨_, rfl, a, _, rfl, .inl hS2, _, _, rfl, _, _, rfl, _, rfl, ?_, ?_, fun D hD => lc_ok walk_range (fun i y _ => y = .bl true) hD ?_ (fun _ _ => trivial) (fun _ _ _ _ _ _ h => h) (fun _ _ _ _ h => by rw [h.1]; exact Same.refl _) ?_ ?_⟩
      · split <;> split <;> omega
      · split <;> split <;> omega
      · refine Nat.lt_of_le_of_lt (m := 5) ?_ (by decide)
        split <;> split <;> omega
      · rintro i y H3 H4 hi s3 ⟨rfl, rfl⟩ Q' k
        have hi5 : i < 1000 := by
          refine Nat.lt_of_lt_of_le hi ?_
          split <;> split <;> omega
        exact ⟨rfl, _, rfl, _, rfl, a, ns, _, rfl, Same.seq s3 hS2, by omega, by omega, fun c H5 e5 => ⟨c, rfl, fun p H6 hp e6 hp6 => ⟨p, rfl, hp6, fun H7 e7 => k _ _ ((e5.trans e6).trans e7) rfl⟩⟩⟩
      · intro H3 acc s3 hacc hla hra
        exact all_go hacc hra (q _)
end
end Z
set_option Elab.async false
set_option linter.all false
set_option autoImplicit false
set_option maxRecDepth 100000
set_option maxHeartbeats 4000000
/-! the head's facts: defs at any address that a path of one's own tells, and further facts as one Bool -/
namespace ZH
open PySem PySem.Spec PyProof.Rows L2
structure DefA where
  at_ : PySem.W.Frag → Addr
  name : Str
  qual : Str
  params : Arguments
  body : List Stmt
  scope : Scope
  dfl : List He.Dv := []
def fnA (K : PySem.W.Frag) (a : Addr) : He.FnW := match K.lookup a with
  | some o => (match o.data with
    | .func fd => some (fd.name, fd.qualname, fd.params, fd.body, fd.scope, fd.globals, fd.closure, fd.builtins)
    | _ => none)
  | none => none
def DefA.val (d : DefA) : He.FnW := some (d.name, d.qual, d.params, .stmts d.body, d.scope, mainGlobals, [], builtinsNs)
def DefA.dvs (K : PySem.W.Frag) (d : DefA) : List V := d.dfl.map (He.Dv.v K)
def DefA.ok (K : PySem.W.Frag) (d : DefA) : Bool := PySem.W.keepIn K (.ref (d.at_ K)) && (match K.lookup (d.at_ K) with
  | some o => (match o.data with
    | .func fd => PySem.W.codeIn K fd.code d.qual && He.dflB K fd.defaults (d.dvs K)
    | _ => false)
  | none => false)
theorem DefA.funD {K : PySem.W.Frag} {d : DefA} (e : fnA K (d.at_ K) = d.val) (c : d.ok K = true) : ∃ fd, FunD K d.name d.qual d.params d.body d.scope (d.dvs K) [] (d.at_ K) fd := by
  unfold DefA.ok at c
  rw [Bool.and_eq_true] at c
  obtain ⟨kp, c2⟩ := c
  unfold fnA at e
  cases q : K.lookup (d.at_ K) with
  | none => rw [q] at c2; cases c2
  | some o =>
    rw [q] at c2 e
    obtain ⟨oc, od, dt, osl⟩ := o
    simp only at c2 e
    cases dt with
    | func fd =>
      simp only at c2 e
      rw [Bool.and_eq_true] at c2
      obtain ⟨n1, n2, n3, n4, n5, n6, n7, n8, n9, n10, n11, n12, n13, n14, n15⟩ := fd
      simp only [DefA.val, Option.some.injEq, Prod.mk.injEq] at e
      obtain ⟨a1, a2, a3, a4, a5, a6, a7, a8⟩ := e
      subst a1 a2 a3 a4 a5 a6 a7 a8
      exact ⟨_, ⟨oc, od, n8, n9, n10, n11, n12, n13, n14, osl, rfl, q, c2.1, He.dflB_ok c2.2, .inl rfl⟩, kp⟩
    | _ => simp only at c2; cases c2
def obsA (fa : List He.Fa) (ex : PySem.W.Frag → Bool) (fn : List DefA) (K : PySem.W.Frag) : He.AlD := ((fa.all fun f => f.ok K) && (fn.all (fun d => d.ok K) && ex K), fn.map fun d => fnA K (d.at_ K))
def valA (fn : List DefA) : He.AlD := (true, fn.map DefA.val)
abbrev Tab : Type := (PySem.W.Frag → Addr) × List Str
abbrev AlT : Type := He.AlD × List (Option (List (Option (Str × Int))))
def obsT (fa : List He.Fa) (ex : PySem.W.Frag → Bool) (fn : List DefA) (ts : List Tab) (K : PySem.W.Frag) : AlT := (obsA fa ex fn K, ts.map fun t => He.dicW K (t.1 K))
def valT (fn : List DefA) (ts : List Tab) (w : World) : AlT := (valA fn, ts.map fun t => some (He.keysIn w.params t.2))
def Says (fa : List He.Fa) (ex : PySem.W.Frag → Bool) (fn : List DefA) (ts : List Tab) (w : World) (K : PySem.W.Frag) : Prop := obsT fa ex fn ts K = valT fn ts w
def obsG (n : Nat) (fa : List He.Fa) (ex : PySem.W.Frag → Bool) (fn : List DefA) (ts : List Tab) (g : Addr → Option Obj) : AlT := obsT fa ex fn ts (He.frG g (He.asD g n))
def hook (n : Nat) (fa : List He.Fa) (ex : PySem.W.Frag → Bool) (fn : List DefA) (ts : List Tab) : PySem.W.Hook where
  α := AlT
  obs := fun s => obsG n fa ex fn ts s.heap.get?
  val := fun w => valT fn ts w
  says := fun w h => ∃ K : PySem.W.Frag, K.In h ∧ Says fa ex fn ts w K
  of := fun _ _ e => ⟨_, He.frG_in, e⟩
  keeps := fun _ _ _ ⟨K, k1, k2⟩ k => ⟨K, PySem.W.Frag.In.keeps k1 k, k2⟩
theorem obs_eq {n : Nat} {fa : List He.Fa} {ex : PySem.W.Frag → Bool} {fn : List DefA} {ts : List Tab} {g : Addr → Option Obj} {s : Shared} (h : ∀ a, g a = s.heap.get? a) : obsG n fa ex fn ts g = (hook n fa ex fn ts).obs s := by
  rw [show g = s.heap.get? from funext h]; rfl
section
variable {fa : List He.Fa} {ex : PySem.W.Frag → Bool} {fn : List DefA} {ts : List Tab} {w : World} {K : PySem.W.Frag}
theorem Says.fact (c : Says fa ex fn ts w K) (i : Nat) {f : He.Fa} (h : fa[i]? = some f := by rfl) : f.ok K = true := by
  have q := congrArg (fun z : AlT => z.1.1) c
  have q1 : ((fa.all fun f => f.ok K) && (fn.all (fun d => d.ok K) && ex K)) = true := q
  rw [Bool.and_eq_true] at q1
  exact List.all_eq_true.mp q1.1 f (List.mem_of_getElem? h)
theorem Says.more (c : Says fa ex fn ts w K) : ex K = true := by
  have q := congrArg (fun z : AlT => z.1.1) c
  have q1 : ((fa.all fun f => f.ok K) && (fn.all (fun d => d.ok K) && ex K)) = true := q
  rw [Bool.and_eq_true, Bool.and_eq_true] at q1
  exact q1.2.2
theorem Says.def_ (c : Says fa ex fn ts w K) (i : Nat) {d : DefA} (h : fn[i]? = some d := by rfl) : ∃ fd, FunD K d.name d.qual d.params d.body d.scope (d.dvs K) [] (d.at_ K) fd := by
  have q := congrArg (fun z : AlT => z.1.1) c
  have q1 : ((fa.all fun f => f.ok K) && (fn.all (fun d => d.ok K) && ex K)) = true := q
  rw [Bool.and_eq_true, Bool.and_eq_true] at q1
  have q2 : (fn.map fun d => fnA K (d.at_ K)) = fn.map DefA.val := congrArg (fun z : AlT => z.1.2) c
  have q3 : (fn.map fun d => fnA K (d.at_ K))[i]? = (fn.map DefA.val)[i]? := by rw [q2]
  rw [List.getElem?_map, List.getElem?_map, h] at q3
  exact DefA.funD (Option.some.inj q3) (List.all_eq_true.mp q1.2.1 d (List.mem_of_getElem? h))
theorem Says.tab (c : Says fa ex fn ts w K) (i : Nat) {t : Tab} (h : ts[i]? = some t := by rfl) : ∃ es n, KDict K w (t.1 K) es n := by
  have e : ts.map (fun t => He.dicW K (t.1 K)) = ts.map fun t => some (He.keysIn w.params t.2) := congrArg (fun z : AlT => z.2) c
  have e2 : (ts.map fun t => He.dicW K (t.1 K))[i]? = (ts.map fun t => some (He.keysIn w.params t.2))[i]? := by rw [e]
  rw [List.getElem?_map, List.getElem?_map, h] at e2
  exact He.dicW_ok (Option.some.inj e2)
end
/-! tuples of texts in a table -/
def entA (x z : Str) (K : PySem.W.Frag) : Addr := match PySem.W.nsIn K (He.ga K x) z with
  | some (some (.ref t)) => t
  | _ => 0
def tupAt (K : PySem.W.Frag) (a : Addr) (vs : List Str) : Bool := match K.lookup a with
  | some ⟨.type c, _, .seq its _, _⟩ => decide (c = "tuple") && (decide (its.size ≤ sizeLine) && He.relAll (vs.map V.str) its.toList)
  | _ => false
theorem tupAt_ok {K : PySem.W.Frag} {a : Addr} {vs : List Str} (h : tupAt K a vs = true) (H : Hp) : SqT K H a (vs.map V.str) := by
  unfold tupAt at h
  cases q : K.lookup a with
  | none => rw [q] at h; cases h
  | some o =>
    obtain ⟨oc, od, dt, osl⟩ := o
    rw [q] at h
    cases oc with
    | type c =>
      cases dt with
      | seq its n =>
        obtain ⟨h1, h2⟩ := He.ba (show (decide (c = "tuple") && (decide (its.size ≤ sizeLine) && He.relAll (vs.map V.str) its.toList)) = true from h)
        obtain ⟨h3, h4⟩ := He.ba h2
        exact .inr ⟨_, its, n, q, congrArg Value.type (of_decide_eq_true h1), rfl, of_decide_eq_true h3, He.relAll_ok h4⟩
      | _ => cases h
    | _ => cases dt <;> cases h
/-- a table whose values are tuples of texts -/
def tabTB (K : PySem.W.Frag) (x : Str) (T : List (Str × List Str)) : Bool := T.all fun q => (match PySem.W.nsIn K (He.ga K x) q.1 with
  | some (some (.ref t)) => tupAt K t q.2
  | _ => false)
theorem tabTB_ok {K : PySem.W.Frag} {x : Str} {T : List (Str × List Str)} (h : tabTB K x T = true) {q : Str × List Str} (hq : q ∈ T) : ∃ t, PySem.W.nsIn K (He.ga K x) q.1 = some (some (.ref t)) ∧ ∀ H, SqT K H t (q.2.map V.str) := by
  have h2 := List.all_eq_true.mp h q hq
  split at h2
  · rename_i t e
    exact ⟨t, e, fun H => tupAt_ok h2 H⟩
  · cases h2
def tabSB (K : PySem.W.Frag) (x : Str) (T : List (Str × Str)) : Bool := He.valsB K (He.ga K x) (T.map fun q => (q.1, He.Dv.str q.2))
theorem tabSB_ok {K : PySem.W.Frag} {x : Str} {T : List (Str × Str)} (h : tabSB K x T = true) {q : Str × Str} (hq : q ∈ T) : ∃ u, PySem.W.nsIn K (He.ga K x) q.1 = some (some u) ∧ RelV (.str q.2) u :=
  He.valsB_ok h (List.mem_map.mpr ⟨q, hq, rfl⟩)
end ZH
namespace ZH
open PySem PySem.Spec PyProof.Rows L2
/-- the getter of a property of a class -/
def getA (C f : Str) (K : PySem.W.Frag) : Addr := match PySem.W.recIn K (He.ma K (He.ga K C) f) "property" with
  | some (.ref g :: _) => g
  | _ => 0
def propB (C f : Str) (K : PySem.W.Frag) : Bool :=
  He.eqO (PySem.W.findIn K (.ref (He.ga K C)) f) (some (some (.ref (He.ma K (He.ga K C) f)))) && (He.eqO (PySem.W.specialIn K (.ref (He.ma K (He.ga K C) f)) "__get__") (some (some (.builtin "property.__get__"))) &&
  (decide (PySem.W.takesIn K (.ref (He.ma K (He.ga K C) f)) = some true) && (match PySem.W.recIn K (He.ma K (He.ga K C) f) "property" with
    | some (.ref _ :: _) => true
    | _ => false)))
theorem prop_ok {C f : Str} {K : PySem.W.Frag} (h : propB C f K = true) : PropOf K (He.ga K C) f (He.ma K (He.ga K C) f) (getA C f K) := by
  unfold propB at h
  rw [Bool.and_eq_true, Bool.and_eq_true, Bool.and_eq_true] at h
  obtain ⟨h1, h2, h3, h4⟩ := h
  refine ⟨He.eqO_ok h1, He.eqO_ok h2, of_decide_eq_true h3, ?_⟩
  unfold getA
  split at h4
  · rename_i g r e
    rw [e]; exact ⟨r, rfl⟩
  · cases h4
end ZH
set_option Elab.async false
set_option linter.all false
set_option autoImplicit false
set_option maxRecDepth 100000
set_option maxHeartbeats 0
namespace Z
open PySem PySem.Spec PyProof.Rows L2
abbrev R : PySem.W.OpenRow := PySem.W.OpenLaw.row PySem.Challenge.rw_labelframes_k15_folded_expressions
def fa : List He.Fa := [.glo "kind_behind", .glo "value_behind", .glo "settled", .glo "value_of_two", .glo "quotient", .glo "folded_within", .glo "is_constant", .glo "is_truth", .glo "shortened", .glo "shortened_pair", .glo "is_whole", .glo "is_name", .glo "is_kind", .glo "is_text", .glo "is_value", .glo "fields_of", .glo "has_form", .glo "nodes_inside", .glo "first_fault", .glo "expression_fault", .glo "check_expression", .glo "is_field", .glo "is_table_field", .glo "folded", .glo "_law_cell", .glo "_law_pool", .glo "_law_draw", .glo "_law_calls", .glo "_law_worth", .glo "_law_heads", .glo "_law_leaf", .glo "_law_tree", .glo "_law_pair", .glo "_law_test", .glo "_law_counted", .glo "_law_value", .glo "_law_size", .glo "_law_fit", .glo "_law_wanted", .glo "_law_swapped", .glo "_law_folded", .glo "_law_filled", .glo "_law_told_right", .glo "_law_right", .glo "law", .free "isinstance", .free "int", .free "str", .free "bool", .free "tuple", .free "len", .free "all", .free "zip", .free "set", .free "enumerate", .free "range", .free "abs", .free "divmod", .free "max", .free "min", .free "reversed", .free "sum", .free "list", .free "dict", .free "any", .free "repr", .int "MOST_LETTERS" 8, .int "EXPRESSION_NODES" 40, .int "EXPRESSION_LEVELS" 8, .glo "KINDS", .glo "EXPRESSIONS", .glo "PLANS", .glo "PART_KINDS", .glo "OWN_KINDS"]
def ex (K : PySem.W.Frag) : Bool := He.tupB K "KINDS" [.str "int", .str "text", .str "bool"] && (ZH.tabTB K "EXPRESSIONS" exTab && (ZH.tabTB K "PART_KINDS" partKinds && ZH.tabSB K "OWN_KINDS" ownKinds))
def ts : List ZH.Tab := [⟨fun K => He.ga K "EXPRESSIONS", exTab.map (·.1)⟩, ⟨fun K => He.ga K "PART_KINDS", partKinds.map (·.1)⟩, ⟨fun K => He.ga K "OWN_KINDS", ownKinds.map (·.1)⟩]
def fn : List ZH.DefA := [
  ⟨fun K => He.ga K "kind_behind", "kind_behind", "kind_behind", defArgs (top 6), defBody (top 6), defScope (top 6), []⟩,
  ⟨fun K => He.ga K "value_behind", "value_behind", "value_behind", defArgs (top 7), defBody (top 7), defScope (top 7), []⟩,
  ⟨fun K => He.ga K "settled", "settled", "settled", defArgs (top 8), defBody (top 8), defScope (top 8), []⟩,
  ⟨fun K => He.ga K "value_of_two", "value_of_two", "value_of_two", defArgs (top 9), defBody (top 9), defScope (top 9), []⟩,
  ⟨fun K => He.ga K "quotient", "quotient", "quotient", defArgs (top 10), defBody (top 10), defScope (top 10), []⟩,
  ⟨fun K => He.ga K "folded_within", "folded_within", "folded_within", defArgs (top 12), defBody (top 12), defScope (top 12), []⟩,
  ⟨fun K => He.ga K "is_constant", "is_constant", "is_constant", defArgs (top 13), defBody (top 13), defScope (top 13), []⟩,
  ⟨fun K => He.ga K "is_truth", "is_truth", "is_truth", defArgs (top 14), defBody (top 14), defScope (top 14), []⟩,
  ⟨fun K => He.ga K "shortened", "shortened", "shortened", defArgs (top 15), defBody (top 15), defScope (top 15), []⟩,
  ⟨fun K => He.ga K "shortened_pair", "shortened_pair", "shortened_pair", defArgs (top 16), defBody (top 16), defScope (top 16), []⟩,
  ⟨fun K => He.ga K "is_whole", "is_whole", "is_whole", defArgs (top 20), defBody (top 20), defScope (top 20), []⟩,
  ⟨fun K => He.ga K "is_name", "is_name", "is_name", defArgs (top 22), defBody (top 22), defScope (top 22), []⟩,
  ⟨fun K => He.ga K "is_kind", "is_kind", "is_kind", defArgs (top 23), defBody (top 23), defScope (top 23), []⟩,
  ⟨fun K => He.ga K "is_text", "is_text", "is_text", defArgs (top 24), defBody (top 24), defScope (top 24), []⟩,
  ⟨fun K => He.ga K "is_value", "is_value", "is_value", defArgs (top 25), defBody (top 25), defScope (top 25), []⟩,
  ⟨fun K => He.ga K "fields_of", "fields_of", "fields_of", defArgs (top 35), defBody (top 35), defScope (top 35), []⟩,
  ⟨fun K => He.ga K "has_form", "has_form", "has_form", defArgs (top 36), defBody (top 36), defScope (top 36), []⟩,
  ⟨fun K => He.ga K "nodes_inside", "nodes_inside", "nodes_inside", defArgs (top 37), defBody (top 37), defScope (top 37), []⟩,
  ⟨fun K => He.ga K "first_fault", "first_fault", "first_fault", defArgs (top 38), defBody (top 38), defScope (top 38), []⟩,
  ⟨fun K => He.ga K "expression_fault", "expression_fault", "expression_fault", defArgs (top 39), defBody (top 39), defScope (top 39), []⟩,
  ⟨fun K => He.ga K "check_expression", "check_expression", "check_expression", defArgs (top 40), defBody (top 40), defScope (top 40), []⟩,
  ⟨fun K => He.ga K "is_field", "is_field", "is_field", defArgs (top 41), defBody (top 41), defScope (top 41), []⟩,
  ⟨fun K => He.ga K "is_table_field", "is_table_field", "is_table_field", defArgs (top 42), defBody (top 42), defScope (top 42), []⟩,
  ⟨fun K => He.ga K "folded", "folded", "folded", defArgs (top 50), defBody (top 50), defScope (top 50), []⟩,
  ⟨fun K => He.ga K "_law_cell", "_law_cell", "_law_cell", defArgs (top 52), defBody (top 52), defScope (top 52), []⟩,
  ⟨fun K => He.ga K "_law_pool", "_law_pool", "_law_pool", defArgs (top 53), defBody (top 53), defScope (top 53), []⟩,
  ⟨fun K => He.ga K "_law_draw", "_law_draw", "_law_draw", defArgs (top 54), defBody (top 54), defScope (top 54), []⟩,
  ⟨fun K => He.ga K "_law_calls", "_law_calls", "_law_calls", defArgs (top 55), defBody (top 55), defScope (top 55), []⟩,
  ⟨fun K => He.ga K "_law_worth", "_law_worth", "_law_worth", defArgs (top 56), defBody (top 56), defScope (top 56), []⟩,
  ⟨fun K => He.ga K "_law_heads", "_law_heads", "_law_heads", defArgs (top 57), defBody (top 57), defScope (top 57), []⟩,
  ⟨fun K => He.ga K "_law_leaf", "_law_leaf", "_law_leaf", defArgs (top 58), defBody (top 58), defScope (top 58), []⟩,
  ⟨fun K => He.ga K "_law_tree", "_law_tree", "_law_tree", defArgs (top 59), defBody (top 59), defScope (top 59), []⟩,
  ⟨fun K => He.ga K "_law_pair", "_law_pair", "_law_pair", defArgs (top 60), defBody (top 60), defScope (top 60), []⟩,
  ⟨fun K => He.ga K "_law_test", "_law_test", "_law_test", defArgs (top 61), defBody (top 61), defScope (top 61), []⟩,
  ⟨fun K => He.ga K "_law_counted", "_law_counted", "_law_counted", defArgs (top 62), defBody (top 62), defScope (top 62), []⟩,
  ⟨fun K => He.ga K "_law_value", "_law_value", "_law_value", defArgs (top 63), defBody (top 63), defScope (top 63), []⟩,
  ⟨fun K => He.ga K "_law_size", "_law_size", "_law_size", defArgs (top 64), defBody (top 64), defScope (top 64), []⟩,
  ⟨fun K => He.ga K "_law_fit", "_law_fit", "_law_fit", defArgs (top 65), defBody (top 65), defScope (top 65), []⟩,
  ⟨fun K => He.ga K "_law_wanted", "_law_wanted", "_law_wanted", defArgs (top 66), defBody (top 66), defScope (top 66), []⟩,
  ⟨fun K => He.ga K "_law_swapped", "_law_swapped", "_law_swapped", defArgs (top 67), defBody (top 67), defScope (top 67), []⟩,
  ⟨fun K => He.ga K "_law_folded", "_law_folded", "_law_folded", defArgs (top 68), defBody (top 68), defScope (top 68), []⟩,
  ⟨fun K => He.ga K "_law_filled", "_law_filled", "_law_filled", defArgs (top 69), defBody (top 69), defScope (top 69), []⟩,
  ⟨fun K => He.ga K "_law_told_right", "_law_told_right", "_law_told_right", defArgs (top 70), defBody (top 70), defScope (top 70), []⟩,
  ⟨fun K => He.ga K "_law_right", "_law_right", "_law_right", defArgs (top 71), defBody (top 71), defScope (top 71), []⟩,
  ⟨fun K => He.ga K "law", "law", "law", defArgs (top 72), defBody (top 72), defScope (top 72), []⟩]
abbrev hk : PySem.W.Hook := ZH.hook 6 fa ex fn ts
def ob (s : PySem.W.SharedT) : ZH.AlT := ZH.obsG 6 fa ex fn ts (HandSHeadRun.getT s)
theorem ob_eq (s : PySem.W.SharedT) : ob s = hk.obs s.abs := ZH.obs_eq (HandSHeadRun.getT_eq s)
def loose : List PySem.Str := (["FrameError", "InvalidExpression", "PART_KINDS", "OWN_KINDS", "kind_behind", "value_behind", "settled", "value_of_two", "quotient", "folded_within", "is_constant", "is_truth"] : List PySem.Str) ++ (["shortened", "shortened_pair", "KINDS", "MOST_LETTERS", "is_whole", "is_count", "is_name", "is_kind", "is_text", "is_value", "is_pair", "EXPRESSION_NODES"] : List PySem.Str) ++ (["EXPRESSION_LEVELS", "EXPRESSIONS", "PLANS", "HOWS", "RUNNING_FUNCTIONS", "GROUP_FUNCTIONS", "fields_of", "has_form", "nodes_inside", "first_fault", "expression_fault", "check_expression"] : List PySem.Str) ++ (["is_field", "is_table_field", "is_word", "are_names", "are_all_pairs", "are_keys", "are_pairs", "is_sum", "folded", "_law_cell", "_law_pool", "_law_draw"] : List PySem.Str) ++ (["_law_calls", "_law_worth", "_law_heads", "_law_leaf", "_law_tree", "_law_pair", "_law_test", "_law_counted", "_law_value", "_law_size", "_law_fit", "_law_wanted"] : List PySem.Str) ++ (["_law_swapped", "_law_folded", "_law_filled", "_law_told_right", "_law_right"] : List PySem.Str)
theorem runF (w : World) : HandSHeadRun.RunEq R (PySem.W.view R.prog [72]) hk ob 20000 loose (w.withFollow "special-get-raises" false) := by
  intro os
  kernel_rfl
theorem runT (w : World) : HandSHeadRun.RunEq R (PySem.W.view R.prog [72]) hk ob 20000 loose (w.withFollow "special-get-raises" true) := by
  intro os
  kernel_rfl
theorem run (w : World) : HandSHeadRun.RunEq R (PySem.W.view R.prog [72]) hk ob 20000 loose w :=
  PySem.W.byRow2 "special-get-raises" (P := fun w => HandSHeadRun.RunEq R (PySem.W.view R.prog [72]) hk ob 20000 loose w) runF runT w
end Z
set_option Elab.async false
set_option linter.all false
set_option autoImplicit false
set_option maxRecDepth 100000
set_option maxHeartbeats 4000000
namespace Z
open PySem PySem.Spec PyProof.Rows L2
section
variable {P : Program} {w : World} {K : PySem.W.Frag} {h : Heap} {mg : Str → Option Value}
theorem def0 (X : K.In h) (G : h.Ns mainGlobals mg) (c : ZH.Says fa ex fn ts w K) {x : Str} {st : Stmt} (i j : Nat) (hi : fa[i]? = some (.glo x)) (hj : fn[j]? = some ⟨fun K => He.ga K x, x, x, defArgs st, defBody st, defScope st, []⟩) : Def0 K mg x st := by
  obtain ⟨fd, F⟩ := c.def_ j hj
  exact ⟨He.ga K x, fd, F, He.glo_ok X G (c.fact i hi)⟩
theorem more (c : ZH.Says fa ex fn ts w K) : He.tupB K "KINDS" [.str "int", .str "text", .str "bool"] = true ∧ ZH.tabTB K "EXPRESSIONS" exTab = true ∧ ZH.tabTB K "PART_KINDS" partKinds = true ∧ ZH.tabSB K "OWN_KINDS" ownKinds = true := by
  have q := c.more
  unfold ex at q
  rw [Bool.and_eq_true, Bool.and_eq_true, Bool.and_eq_true] at q
  exact q
theorem txt (X : K.In h) (G : h.Ns mainGlobals mg) (c : ZH.Says fa ex fn ts w K) : TxtE K w mg where
  z_isinstance := He.free_ok X G (c.fact 45 rfl)
  z_int := He.free_ok X G (c.fact 46 rfl)
  z_str := He.free_ok X G (c.fact 47 rfl)
  z_bool := He.free_ok X G (c.fact 48 rfl)
  z_tuple := He.free_ok X G (c.fact 49 rfl)
  z_len := He.free_ok X G (c.fact 50 rfl)
  z_all := He.free_ok X G (c.fact 51 rfl)
  z_zip := He.free_ok X G (c.fact 52 rfl)
  z_set := He.free_ok X G (c.fact 53 rfl)
  z_enumerate := He.free_ok X G (c.fact 54 rfl)
  z_range := He.free_ok X G (c.fact 55 rfl)
  z_abs := He.free_ok X G (c.fact 56 rfl)
  z_divmod := He.free_ok X G (c.fact 57 rfl)
  z_max := He.free_ok X G (c.fact 58 rfl)
  z_min := He.free_ok X G (c.fact 59 rfl)
  z_reversed := He.free_ok X G (c.fact 60 rfl)
  z_sum := He.free_ok X G (c.fact 61 rfl)
  z_list := He.free_ok X G (c.fact 62 rfl)
  z_dict := He.free_ok X G (c.fact 63 rfl)
  c_MOST_LETTERS := by
    obtain ⟨t, e⟩ := He.int_ok X G (c.fact 66 rfl)
    exact ⟨_, e, t, rfl⟩
  c_EXPRESSION_NODES := by
    obtain ⟨t, e⟩ := He.int_ok X G (c.fact 67 rfl)
    exact ⟨_, e, t, rfl⟩
  c_EXPRESSION_LEVELS := by
    obtain ⟨t, e⟩ := He.int_ok X G (c.fact 68 rfl)
    exact ⟨_, e, t, rfl⟩
  c_KINDS := ⟨_, He.glo_ok X G (c.fact 69 rfl), fun H => He.tupB_ok (more c).1 H⟩
  c_PLANS := ⟨_, He.glo_ok X G (c.fact 71 rfl)⟩
  c_EXPRESSIONS := ⟨_, He.glo_ok X G (c.fact 70 rfl), fun q hq => by
    obtain ⟨t, e, s⟩ := ZH.tabTB_ok (more c).2.1 hq
    obtain ⟨es, n, D⟩ := c.tab 0 rfl
    exact ⟨t, ⟨es, n, D, _, e, rfl⟩, s⟩⟩
  c_PART_KINDS := ⟨_, He.glo_ok X G (c.fact 72 rfl), fun q hq => by
    obtain ⟨t, e, s⟩ := ZH.tabTB_ok (more c).2.2.1 hq
    obtain ⟨es, n, D⟩ := c.tab 1 rfl
    exact ⟨t, ⟨es, n, _, D.at_, D.lit, e, rfl⟩, s⟩⟩
  c_OWN_KINDS := ⟨_, He.glo_ok X G (c.fact 73 rfl), fun q hq => by
    obtain ⟨u, e, r⟩ := ZH.tabSB_ok (more c).2.2.2 hq
    obtain ⟨es, n, D⟩ := c.tab 2 rfl
    exact ⟨es, n, u, D.at_, D.lit, e, r⟩⟩
theorem facts (X : K.In h) (G : h.Ns mainGlobals mg) {f : Addr} (hfa : mg ("law" : Str) = some (.ref f)) (c : ZH.Says fa ex fn ts w K) :
    ∃ fd : FuncData, (∀ (s : Shared) (v : Value), BindsTo s fd ⟨[v], []⟩ [("script", v)]) ∧ ∀ base : Heap, K.In base → base.Ns mainGlobals mg → FnG P w K mg base CX0 25 f fd ["script"] (spLaw K) := by
  have T := txt X G c
  obtain ⟨fd, FL⟩ := c.def_ 44 rfl
  have e := hfa.symm.trans (He.glo_ok X G (c.fact 44 rfl))
  cases e
  have D_kind_behind := def0 X G c (x := "kind_behind") 0 0 rfl rfl
  have D_value_behind := def0 X G c (x := "value_behind") 1 1 rfl rfl
  have D_settled := def0 X G c (x := "settled") 2 2 rfl rfl
  have D_value_of_two := def0 X G c (x := "value_of_two") 3 3 rfl rfl
  have D_quotient := def0 X G c (x := "quotient") 4 4 rfl rfl
  have D_folded_within := def0 X G c (x := "folded_within") 5 5 rfl rfl
  have D_is_constant := def0 X G c (x := "is_constant") 6 6 rfl rfl
  have D_is_truth := def0 X G c (x := "is_truth") 7 7 rfl rfl
  have D_shortened := def0 X G c (x := "shortened") 8 8 rfl rfl
  have D_shortened_pair := def0 X G c (x := "shortened_pair") 9 9 rfl rfl
  have D_is_whole := def0 X G c (x := "is_whole") 10 10 rfl rfl
  have D_is_name := def0 X G c (x := "is_name") 11 11 rfl rfl
  have D_is_kind := def0 X G c (x := "is_kind") 12 12 rfl rfl
  have D_is_text := def0 X G c (x := "is_text") 13 13 rfl rfl
  have D_is_value := def0 X G c (x := "is_value") 14 14 rfl rfl
  have D_fields_of := def0 X G c (x := "fields_of") 15 15 rfl rfl
  have D_has_form := def0 X G c (x := "has_form") 16 16 rfl rfl
  have D_nodes_inside := def0 X G c (x := "nodes_inside") 17 17 rfl rfl
  have D_first_fault := def0 X G c (x := "first_fault") 18 18 rfl rfl
  have D_expression_fault := def0 X G c (x := "expression_fault") 19 19 rfl rfl
  have D_check_expression := def0 X G c (x := "check_expression") 20 20 rfl rfl
  have D_is_field := def0 X G c (x := "is_field") 21 21 rfl rfl
  have D_is_table_field := def0 X G c (x := "is_table_field") 22 22 rfl rfl
  have D_folded := def0 X G c (x := "folded") 23 23 rfl rfl
  have D__law_cell := def0 X G c (x := "_law_cell") 24 24 rfl rfl
  have D__law_pool := def0 X G c (x := "_law_pool") 25 25 rfl rfl
  have D__law_draw := def0 X G c (x := "_law_draw") 26 26 rfl rfl
  have D__law_calls := def0 X G c (x := "_law_calls") 27 27 rfl rfl
  have D__law_worth := def0 X G c (x := "_law_worth") 28 28 rfl rfl
  have D__law_heads := def0 X G c (x := "_law_heads") 29 29 rfl rfl
  have D__law_leaf := def0 X G c (x := "_law_leaf") 30 30 rfl rfl
  have D__law_tree := def0 X G c (x := "_law_tree") 31 31 rfl rfl
  have D__law_pair := def0 X G c (x := "_law_pair") 32 32 rfl rfl
  have D__law_test := def0 X G c (x := "_law_test") 33 33 rfl rfl
  have D__law_counted := def0 X G c (x := "_law_counted") 34 34 rfl rfl
  have D__law_value := def0 X G c (x := "_law_value") 35 35 rfl rfl
  have D__law_size := def0 X G c (x := "_law_size") 36 36 rfl rfl
  have D__law_fit := def0 X G c (x := "_law_fit") 37 37 rfl rfl
  have D__law_wanted := def0 X G c (x := "_law_wanted") 38 38 rfl rfl
  have D__law_swapped := def0 X G c (x := "_law_swapped") 39 39 rfl rfl
  have D__law_folded := def0 X G c (x := "_law_folded") 40 40 rfl rfl
  have D__law_filled := def0 X G c (x := "_law_filled") 41 41 rfl rfl
  have D__law_told_right := def0 X G c (x := "_law_told_right") 42 42 rfl rfl
  have D__law_right := def0 X G c (x := "_law_right") 43 43 rfl rfl
  have D_law := def0 X G c (x := "law") 44 44 rfl rfl
  have b := FunD.bindsA (ps := ["script"]) FL fun _ _ _ _ _ _ us hl => match us, hl with | [_], _ => rfl
  obtain ⟨fdk, FK⟩ := c.def_ 23 rfl
  have mk := He.glo_ok X G (c.fact 23 rfl)
  refine ⟨fd, fun s v => b s [v] rfl, fun base _ _ => ?_⟩
  have zany : mg "any" = none := He.free_ok X G (c.fact 64 rfl)
  have zrepr : mg "repr" = none := He.free_ok X G (c.fact 65 rfl)
  have F_is_whole := kn_is_whole (P := P) (w := w) (base := base) D_is_whole T.toTxt
  have F_is_name := kn_is_name (P := P) (w := w) (base := base) D_is_name T.toTxt
  have F_is_kind := kn_is_kind (P := P) (w := w) (base := base) D_is_kind T.toTxt
  have F_is_text := kn_is_text (P := P) (w := w) (base := base) D_is_text T.toTxt
  have F_is_value := kn_is_value D_is_value T.toTxt F_is_whole F_is_text
  have F_kind_behind := kn_kind_behind (P := P) (base := base) D_kind_behind T
  have F_table_field := kn_is_table_field (P := P) (base := base) D_is_table_field T
  have F_is_field := kn_is_field D_is_field T F_is_name F_is_kind F_table_field
  have F_fields_of := kn_fields_of (P := P) (base := base) D_fields_of T
  have F_has_form := kn_has_form D_has_form T F_fields_of F_is_field F_is_value
  have F_nodes_inside := kn_nodes_inside D_nodes_inside T F_fields_of
  have F_first_fault := kn_first_fault D_first_fault T F_has_form F_nodes_inside
  have F_expression_fault := kn_expression_fault D_expression_fault T F_first_fault
  have F_check_expression := kn_check_expression D_check_expression T F_expression_fault
  have F_quotient := kn_quotient (P := P) (base := base) D_quotient T
  have F_value_of_two := kn_value_of_two D_value_of_two T F_quotient
  have F_settled := kn_settled (P := P) (base := base) D_settled T zany
  have F_value_behind := kn_value_behind D_value_behind T zany F_settled F_value_of_two
  have F_is_constant := kn_is_constant (P := P) (base := base) D_is_constant T
  have F_is_truth := kn_is_truth (P := P) (base := base) D_is_truth T
  have F_shortened_pair := kn_shortened_pair D_shortened_pair T F_is_truth
  have F_shortened := kn_shortened D_shortened T F_is_constant F_is_truth F_shortened_pair
  have F_folded_within := kn_folded_within D_folded_within T F_kind_behind F_value_behind F_is_constant F_shortened
  have ok_fold := ok_folded FK T F_check_expression (F_folded_within 8)
  obtain ⟨F_folded, FK_folded⟩ := knk_folded FK mk ok_fold
  have F_cell := kn__law_cell (P := P) (w := w) (base := base) D__law_cell T.toTxt
  have F_pool := kn__law_pool (P := P) (w := w) (base := base) D__law_pool T.toTxt
  have F_draw := kn__law_draw (P := P) (w := w) (base := base) D__law_draw T.toTxt
  have F_calls := kn__law_calls D__law_calls T.toTxt F_draw
  have F_worth := kn__law_worth D__law_worth T.toTxt F_draw
  have F_heads := kn__law_heads D__law_heads T.toTxt F_draw
  have F_leaf := kn__law_leaf D__law_leaf T F_draw F_worth
  have F_tree := kn__law_tree D__law_tree D__law_pair D__law_test T F_draw F_leaf
  have F_size := kn__law_size (P := P) (base := base) D__law_size T
  have F_fit := kn__law_fit D__law_fit T F_leaf (F_size 6) (F_tree 6)
  have F_counted := kn__law_counted (P := P) (base := base) D__law_counted T
  have F_value0 := kn__law_value0 D__law_value T F_counted (kn_never D__law_value T)
  have F_value := kn__law_value D__law_value T F_counted F_value0
  have F_wanted := kn__law_wanted (P := P) (base := base) D__law_wanted T
  have F_lfolded := kn__law_folded D__law_folded T F_wanted F_value
  have F_filled := kn__law_filled D__law_filled T F_draw F_worth
  have F_swapped := kn__law_swapped D__law_swapped T F_draw F_leaf
  have F_told := kn__law_told_right D__law_told_right T zrepr (F_lfolded 8) F_folded FK_folded
  have F_right := kn__law_right D__law_right T F_draw F_calls F_heads F_fit (F_filled 8) (F_swapped 8) F_told
  exact ok_law FL T zrepr F_cell F_pool F_right F_folded F_told
end
end Z
open PySem PySem.W PySem.Calls PyProof.Rows
theorem PySem.Challenge.cw_labelframes_k15_folded_expressions_holds : PySem.Challenge.rw_labelframes_k15_folded_expressions.Holds := by
  w_on; o_law
  refine HandSHeadRun.head_any (r := OpenLaw.row PySem.Challenge.rw_labelframes_k15_folded_expressions) (q := view (OpenLaw.row PySem.Challenge.rw_labelframes_k15_folded_expressions).prog [72]) (H := Z.hk) (ob := Z.ob) (M := 20000) (loose := Z.loose) (d := HandSHeadRun.topDef (OpenLaw.row PySem.Challenge.rw_labelframes_k15_folded_expressions).prog 72) (kwd := []) Z.ob_eq
    (by kernel_rfl) (fun s => by kernel_rfl) Z.run (by kernel_rfl) (by kernel_rfl) (by kernel_rfl) (by rfl) (by first | assumption | decide +kernel) (by decide +kernel) ⟨rfl, rfl, rfl, rfl, rfl, by decide +kernel⟩ ?hw ?hc
  case hw => w_witness2
  case hc =>
    refine Z.walk_G (l := PySem.Challenge.rw_labelframes_k15_folded_expressions) (n := 63) (k := 25) (x := "script") (CX := L2.CX0) rfl (by decide) (by kernel_rfl) ⟨rfl, by decide, by decide⟩ ?F (fun _ _ _ _ z => z)
    intro w mg fa h Y G hmg0
    obtain ⟨K, KX, c⟩ := Y
    have hmg : mg ("law" : PySem.Str) = some (.ref fa) := by
      rw [← (show (HandSHeadRun.topDef (OpenLaw.row PySem.Challenge.rw_labelframes_k15_folded_expressions).prog 72).name = ("law" : PySem.Str) by kernel_rfl)]
      exact hmg0
    obtain ⟨fd, hb, hF⟩ := Z.facts (P := (PySem.Challenge.rw_labelframes_k15_folded_expressions).prog) (w := w) KX G hmg c
    exact ⟨K, fd, Z.spLaw K, KX, hb, fun H a ns hl _ hS => ⟨a, ns, rfl, hS, hl, fun _ => rfl⟩, hF⟩
