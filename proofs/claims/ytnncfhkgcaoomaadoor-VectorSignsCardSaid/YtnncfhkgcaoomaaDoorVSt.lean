/-
  VectorSigns' memory: a table, a book, three messages, their bodies and tags.
-/
import Derived.Test.YtnncfhkgcaoomaaDoorVKeys
import Derived.Test.YtnncfhkgcaoomaaDoorVFix
namespace Go.Proofs.YtnncfhkgcaoomaaDoor
open Go.RowKit

theorem BS.own_gt {w : World} {g r : Nat} {ds : List DK} {ts : List TK} (h : BS w g ds ts) (ho : Own w g r) : g < r := by
  obtain ⟨m1, m2, hk, h1, h2, _⟩ := h
  obtain ⟨cs, t, fr, i, hc, hi⟩ := ho
  have e : some (Obj.cells #[.map m1, .map m2] 48 (0, 0)) = some (.cells cs t fr) := (show w.heap[g]? = _ from hk).symm.trans hc
  injection e with e
  injection e with e1 _ _
  subst e1
  match i, hi with
  | 0, hi => exact (h1.2 r (by simpa using hi)).1
  | 1, hi => exact (h2.2 r (by simpa using hi)).1
  | i + 2, hi => simp at hi

/-- A book laid behind a table. -/
theorem Duo.laid {w w' : World} {gk : Nat} {seed : List UInt8} (hk : TS w gk seed) (ht : Tab w) (h0 : 0 < gk) (h1 : 1 < gk) (hb : BS w' w.heap.size [] []) (hx : Below w.heap.size w w') : Duo w' gk w.heap.size seed [] :=
  ⟨hk.through hx, ht.through hx, hb, fun r h2 h3 => by
    have h4 := (hk.own_map (h2.congr (hx.block gk hk.lt))).1
    have h5 := hb.own_gt h3
    omega, hk.lt, h0, h1⟩

structure VSt (w0 : World) (b15 gk gb b19 b20 : Nat) (seed : List UInt8) (ts : List TK) (vo vx vy : List Value) (body xs3 : List UInt8) (tos : List Int) (tgx tgy : List (List UInt8)) (B T B3 Bx Bz Ax Ay : Option Addr) (nb n nb3 : Nat) (W : World) : Prop where
  duo : Duo W gk gb seed ts
  bel : Below b15 w0 W
  l15 : b15 < gk
  n19 : gb < b19
  n20 : gb < b20
  m15 : Blk W b15 26 vo
  m19 : Blk W b19 26 vx
  m20 : Blk W b20 26 vy
  yb : By W (· < b15) B nb body
  yt : Iv W (· < b15) T n tos
  y3 : By W (· < b15) B3 nb3 xs3
  yx : By W (gb < ·) Bx nb body
  yy : By W (gb < ·) Bz nb body
  tx : Tg W Ax n tgx
  ty : Tg W Ay n tgy
  nx : ∀ o, Ax = some o → gb < o.block
  ny : ∀ o, Ay = some o → gb < o.block

section
variable {b15 gk gb b19 b20 : Nat} {seed : List UInt8} {ts : List TK} {vo vx vy : List Value} {body xs3 : List UInt8} {tos : List Int} {tgx tgy : List (List UInt8)} {B T B3 Bx Bz Ax Ay : Option Addr} {nb n nb3 : Nat} {w0 W W' : World}
theorem VSt.through (h : VSt w0 b15 gk gb b19 b20 seed ts vo vx vy body xs3 tos tgx tgy B T B3 Bx Bz Ax Ay nb n nb3 W) (hb : Below W.heap.size W W') : VSt w0 b15 gk gb b19 b20 seed ts vo vx vy body xs3 tos tgx tgy B T B3 Bx Bz Ax Ay nb n nb3 W' :=
  ⟨h.duo.through hb, h.bel.trans (hb.mono (Nat.le_of_lt h.m15.lt)), h.l15, h.n19, h.n20, h.m15.through hb, h.m19.through hb, h.m20.through hb, h.yb.through hb, h.yt.through hb, h.y3.through hb, h.yx.through hb, h.yy.through hb, h.tx.through hb, h.ty.through hb, h.nx, h.ny⟩
theorem VSt.drew (h : VSt w0 b15 gk gb b19 b20 seed ts vo vx vy body xs3 tos tgx tgy B T B3 Bx Bz Ax Ay nb n nb3 W) : VSt w0 b15 gk gb b19 b20 seed ts vo vx vy body xs3 tos tgx tgy B T B3 Bx Bz Ax Ay nb n nb3 W.drew := h.through ((Below.refl _ W).drew)
theorem VSt.byK (h : VSt w0 b15 gk gb b19 b20 seed ts vo vx vy body xs3 tos tgx tgy B T B3 Bx Bz Ax Ay nb n nb3 W) (hs : TS W' gk seed ∧ Tab W') (hf : KF gk W W') : VSt w0 b15 gk gb b19 b20 seed ts vo vx vy body xs3 tos tgx tgy B T B3 Bx Bz Ax Ay nb n nb3 W' := by
  have h1 := h.duo.lt
  have h2 := h.l15
  have h3 := h.n19
  have h4 := h.n20
  exact ⟨h.duo.byK hs hf, h.bel.trans (hf.low.mono (by omega)), h.l15, h.n19, h.n20, hf.blk h.m15 (by omega), hf.blk h.m19 (by omega), hf.blk h.m20 (by omega), h.yb.kf hf (fun k hk => by omega), h.yt.kf hf (fun k hk => by omega), h.y3.kf hf (fun k hk => by omega), h.yx.kf hf (fun k hk => by omega), h.yy.kf hf (fun k hk => by omega),
    h.tx.kfNe hf (fun o e => by have := h.nx o e; omega), h.ty.kfNe hf (fun o e => by have := h.ny o e; omega), h.nx, h.ny⟩
theorem VSt.byB (h : VSt w0 b15 gk gb b19 b20 seed ts vo vx vy body xs3 tos tgx tgy B T B3 Bx Bz Ax Ay nb n nb3 W) (hs : BS W' gb [] ts) (hf : KF gb W W') : VSt w0 b15 gk gb b19 b20 seed ts vo vx vy body xs3 tos tgx tgy B T B3 Bx Bz Ax Ay nb n nb3 W' := by
  have h1 := h.duo.lt
  have h2 := h.l15
  have h3 := h.n19
  have h4 := h.n20
  exact ⟨h.duo.byB hs hf, h.bel.trans (hf.low.mono (by omega)), h.l15, h.n19, h.n20, hf.blk h.m15 (by omega), hf.blk h.m19 (by omega), hf.blk h.m20 (by omega), h.yb.kf hf (fun k hk => by omega), h.yt.kf hf (fun k hk => by omega), h.y3.kf hf (fun k hk => by omega), h.yx.kf hf (fun k hk => by omega), h.yy.kf hf (fun k hk => by omega),
    h.tx.kfNe hf (fun o e => by have := h.nx o e; omega), h.ty.kfNe hf (fun o e => by have := h.ny o e; omega), h.nx, h.ny⟩
end


set_option maxHeartbeats 2000000 in
set_option maxRecDepth 100000 in
theorem rtext_any (Q : Nat → Prop) (k : Int) (xs : List UInt8) (A : Option Addr) (n c : Nat) (w : World) (h : By w Q A n xs) (hn : n ≤ 1000000) :
    Calls Tryd.prog 9 #[.int .i64 k, .slice A n c] w fun e w' => ∃ A' c', e = .returned (.slice A' (1 + n) c') ∧ By w' (fun b => w.heap.size ≤ b ∧ b < w'.heap.size) A' (1 + n) (kb k :: xs) ∧ Below w.heap.size w w' := by
  obtain ⟨i0, hi, hz0, hz1, hz2⟩ := info_parts Tryd.info_u8
  have H := Lib.hid h
  have hwk := kb_wrap k
  have hmk := kb_mod k
  generalize kb k = x at *
  clear h
  go_enter Tryd.func9, Tryd.ntmps9
  go_wp2_with (at_builtin; refine wpList_append_by _ rfl (.tmp 7) (.tmp 8) 22 rfl w.heap.size i0 Tryd.underlying22 hi hz0 hz1 hz2 _ 1 (vs [x]) rfl (own_one8 (Nat.le_refl _)) Q A n c xs rfl (H.out.alloc _) (by omega) (by simp) ?_; intro v1 w1 ho1 hg1 _; have HX1 : Hid (Below w.heap.size w w1) := Lib.hid (((Below.refl _ w).alloc (Nat.le_refl _) _).grown hg1 (by simp) (fun k hk => Option.some.inj hk ▸ Nat.le_refl _)); rw [vs_append] at ho1; obtain ⟨A1, c1, rfl, _⟩ := own_form ho1; have HY1 := Lib.hid ((By.of_own ho1).weak (Q' := fun b => w.heap.size ≤ b ∧ b < w1.heap.size) fun _ h => ⟨h.1, h.2.1⟩); clear ho1 hg1)
  go_ret
  exact ⟨A1, c1, rfl, HY1.out, HX1.out⟩

theorem Iv.cellAt {w : World} {Q : Nat → Prop} {g o n j : Nat} {xs : List Int} (h : Iv w Q (some ⟨g, o, none⟩) n xs) (hj : j < n) {v : Int} (hv : v = xs.getD j 0) : w.cell? ⟨g, o + j, none⟩ = some (.int .i64 v) := by
  obtain ⟨g', o', e, _, hc⟩ := h.cell (by omega)
  injection e with e
  injection e with e1 e2
  subst e1; subst e2
  rw [hv]
  exact hc j hj
def tgsK (seed : List UInt8) (f : Int) (tos : List Int) (tx : List UInt8) (n : Nat) : List (List UInt8) := (List.range n).map fun i => tagAB seed f (tos.getD i 0) tx
def tsV (f : Int) (tx : List UInt8) (tos : List Int) (n : Nat) : List TK := acc f tx tos [] n
def tgsB (f : Int) (tx : List UInt8) (tos : List Int) (n : Nat) : List (List UInt8) := (List.range n).map (made f tx tos [] n)
theorem tgsK_at {seed tx : List UInt8} {f : Int} {tos : List Int} {n j : Nat} (h : j < n) : (tgsK seed f tos tx n)[j]? = some (tagAB seed f (tos.getD j 0) tx) := by simp [tgsK, h]
theorem tgsB_at {tx : List UInt8} {f : Int} {tos : List Int} {n j : Nat} (h : j < n) : (tgsB f tx tos n)[j]? = some (bookTag (tsV f tx tos n) (f, tos.getD j 0, tx)) := by
  simp only [tgsB, List.getElem?_map, List.getElem?_range h, Option.map_some]
  rfl
theorem tsV_mem {tx : List UInt8} {f : Int} {tos : List Int} {n j : Nat} (h : j < n) : (f, tos.getD j 0, tx) ∈ tsV f tx tos n := (acc_mem h).1
theorem tsV_len {tx : List UInt8} {f : Int} {tos : List Int} {n : Nat} : (tsV f tx tos n).length ≤ n := by
  have h := acc_length f tx tos [] n
  rw [List.length_nil, Nat.zero_add] at h
  exact h

section
variable {b15 gk gb b19 b20 : Nat} {seed tx : List UInt8} {ts : List TK} {vo vx vy : List Value} {body xs3 : List UInt8} {tos : List Int} {tgx tgy : List (List UInt8)} {B T B3 Bx Bz Ax Ay : Option Addr} {nb n nb3 : Nat} {w0 W W' : World} {k f : Int}
theorem VSt.ckK (h : VSt w0 b15 gk gb b19 b20 seed ts vo vx vy body xs3 tos (tgsK seed f tos tx n) tgy B T B3 Bx Bz Ax Ay nb n nb3 W) (hs : seed.length ≤ 1000000) (hnb : nb ≤ 100000) (htx : tx = kb k :: body) (cx dx : Nat) {j : Nat} (hj : j < n) {tj : Int} (htj : tj = tos.getD j 0) :
    Calls Tryd.prog 10 #[.iface 28 (.pointer (some ⟨gk, 0, none⟩)), .agg #[.int .i64 k, .int .i64 f, .slice Bx nb cx, .slice Ax n dx], .int .i64 (j : Int), .int .i64 tj] W fun e w' => e = .returned (.int .i64 0) ∧ (TS w' gk seed ∧ Tab w') ∧ KF gk W w' := by
  have h1 := check_keys gk seed hs h.duo.h0 h.duo.h1 k f tj body (tagAB seed f tj tx) (tgsK seed f tos tx n) _ Bx nb cx hnb Ax n dx j (by rw [htj]; exact tgsK_at hj) W ⟨h.duo.tk, h.duo.tab⟩ h.yx h.tx (fun o e => by have := h.nx o e; have := h.duo.lt; omega)
  rw [← htx, beq_self_eq_true, if_pos rfl] at h1
  exact h1
theorem VSt.ckB (h : VSt w0 b15 gk gb b19 b20 seed (tsV f tx tos n) vo vx vy body xs3 tos tgx (tgsB f tx tos n) B T B3 Bx Bz Ax Ay nb n nb3 W) (hnb : nb ≤ 100000) (hn : n ≤ 100000) (htx : tx = kb k :: body) (cz dy : Nat) {j : Nat} (hj : j < n) {tj who : Int} (htj : tj = tos.getD j 0) {e1 : Bool} {r : Int} (he : decide (who = tj) = e1) (hr : r = if e1 then 0 else 12) :
    Calls Tryd.prog 10 #[.iface 30 (.pointer (some ⟨gb, 0, none⟩)), .agg #[.int .i64 k, .int .i64 f, .slice Bz nb cz, .slice Ay n dy], .int .i64 (j : Int), .int .i64 who] W fun e w' => e = .returned (.int .i64 r) ∧ BS w' gb [] (tsV f tx tos n) ∧ KF gb W w' := by
  have hl := tsV_len (tx := tx) (f := f) (tos := tos) (n := n)
  have h1 := check_book gb [] (tsV f tx tos n) k f who body (bookTag (tsV f tx tos n) (f, tj, tx)) (tgsB f tx tos n) _ Bz nb cz hnb Ay n dy j (by rw [htj]; exact tgsB_at hj) (by omega) W h.duo.bk h.yy h.ty (fun o e => by have := h.ny o e; omega)
  rw [← htx, holds_made (by rw [htj]; exact tsV_mem hj) (by omega), show decide (((f, who, tx) : TK) = (f, tj, tx)) = e1 by rw [← he]; simp, ← hr] at h1
  exact h1
theorem VSt.tagK (h : VSt w0 b15 gk gb b19 b20 seed ts vo vx vy body xs3 tos tgx tgy B T B3 Bx Bz Ax Ay nb n nb3 W) (hs : seed.length ≤ 1000000) (hnb : nb ≤ 100000) {A : Option Addr} {c : Nat} (hy : By W (gb < ·) A (1 + nb) tx) {tj : Int} {q : List Value} (hq : q = vs (tagAB seed f tj tx)) :
    Calls Tryd.prog 11 #[.pointer (some ⟨gk, 0, none⟩), .int .i64 f, .int .i64 tj, .slice A (1 + nb) c] W fun e w' => e = .returned (.agg q.toArray) ∧ (TS w' gk seed ∧ Tab w') ∧ KF gk W w' := by
  have hlt := h.duo.lt
  refine (tag_tab gk _ (fun k hk => Nat.ne_of_gt (Nat.lt_trans hlt hk)) seed f tj tx A (1 + nb) c W h.duo.tk hs h.duo.h0 h.duo.h1 hy h.duo.tab (by omega)).mono ?_
  rintro e w' ⟨rfl, h1, h2⟩
  exact ⟨by rw [hq], ⟨h1, h.duo.tab.kf h2 h.duo.h0 h.duo.h1⟩, h2⟩
theorem VSt.text (h : VSt w0 b15 gk gb b19 b20 seed ts vo vx vy body xs3 tos tgx tgy B T B3 Bx Bz Ax Ay nb n nb3 W) (hnb : nb ≤ 100000) (htx : tx = kb k :: body) (cb : Nat) :
    Calls Tryd.prog 8 #[.int .i64 k, .slice B nb cb] W fun e w' => ∃ A' c', e = .returned (.slice A' (1 + nb) c') ∧ By w' (gb < ·) A' (1 + nb) tx ∧ Below W.heap.size W w' := by
  have hlt := h.duo.bk.lt
  refine (text_any _ k body B nb cb W h.yb (by omega)).mono ?_
  rintro e w' ⟨A', c', rfl, h1, h2⟩
  rw [← htx] at h1
  exact ⟨A', c', rfl, h1.weak (fun b hb => by omega), h2⟩
theorem VSt.rtext (h : VSt w0 b15 gk gb b19 b20 seed ts vo vx vy body xs3 tos tgx tgy B T B3 Bx Bz Ax Ay nb n nb3 W) (hnb : nb ≤ 100000) (htx : tx = kb k :: body) (cb : Nat) :
    Calls Tryd.prog 9 #[.int .i64 k, .slice B nb cb] W fun e w' => ∃ A' c', e = .returned (.slice A' (1 + nb) c') ∧ By w' (gb < ·) A' (1 + nb) tx ∧ Below W.heap.size W w' := by
  have hlt := h.duo.bk.lt
  refine (rtext_any _ k body B nb cb W h.yb (by omega)).mono ?_
  rintro e w' ⟨A', c', rfl, h1, h2⟩
  rw [← htx] at h1
  exact ⟨A', c', rfl, h1.weak (fun b hb => by omega), h2⟩
theorem VSt.rowx {ga oa : Nat} (h : VSt w0 b15 gk gb b19 b20 seed ts vo vx vy body xs3 tos tgx tgy B T B3 Bx Bz (some ⟨ga, oa, none⟩) Ay nb n nb3 W) {j : Nat} {t : List UInt8} (hj : tgx[j]? = some t) : W.rangeAt ga (oa + j * 32) (vs t) := by
  obtain ⟨_, g, o, e, hr⟩ := h.tx.at j t hj
  injection e with e
  injection e with e1 e2
  subst e1; subst e2
  exact hr

/-- Behind the store into the message that was handed in. -/
structure VEn (w0 : World) (b15 gb : Nat) (ts : List TK) (vo : List Value) (body xs3 : List UInt8) (tos : List Int) (tgy : List (List UInt8)) (B T B3 Ay : Option Addr) (nb n nb3 : Nat) (W : World) : Prop where
  bel : Below b15 w0 W
  l15 : b15 < gb
  m15 : Blk W b15 26 vo
  bk : BS W gb [] ts
  yb : By W (· < b15) B nb body
  yt : Iv W (· < b15) T n tos
  y3 : By W (· < b15) B3 nb3 xs3
  ty : Tg W Ay n tgy
  ny : ∀ o, Ay = some o → gb < o.block
theorem VSt.stored (h : VSt w0 b15 gk gb b19 b20 seed ts vo vx vy body xs3 tos tgx tgy B T B3 Bx Bz Ax Ay nb n nb3 W) {vo' : List Value} (hm : Blk W' b15 26 vo') (ho : W.grownBy W' (some b15)) : VEn w0 b15 gb ts vo' body xs3 tos tgy B T B3 Ay nb n nb3 W' := by
  have h1 := h.l15
  have h2 := h.duo.lt
  have h3 := h.m15.lt
  exact ⟨h.bel.grown ho (Nat.le_of_lt h3) (fun k hk => Option.some.inj hk ▸ Nat.le_refl _), by omega, hm, h.duo.bk.cell ⟨_, _, _, h.m15⟩ ho (by omega),
    (h.yb.lt.keep (fun k hk => ho.block k hk.2 (fun e => by have := Option.some.inj e; omega))).weak (fun _ h => h.1),
    (h.yt.lt.keep (fun k hk => ho.block k hk.2.1 (fun e => by have := Option.some.inj e; omega))).weak (fun _ h => h.1),
    (h.y3.lt.keep (fun k hk => ho.block k hk.2 (fun e => by have := Option.some.inj e; omega))).weak (fun _ h => h.1),
    h.ty.keep (fun k hk _ ⟨o, e⟩ => ho.block k hk (fun e' => by have := h.ny _ e; have := Option.some.inj e'; simp only at *; omega)), h.ny⟩
theorem VEn.through (h : VEn w0 b15 gb ts vo body xs3 tos tgy B T B3 Ay nb n nb3 W) (hb : Below W.heap.size W W') : VEn w0 b15 gb ts vo body xs3 tos tgy B T B3 Ay nb n nb3 W' :=
  ⟨h.bel.trans (hb.mono (Nat.le_of_lt h.m15.lt)), h.l15, h.m15.through hb, h.bk.through hb, h.yb.through hb, h.yt.through hb, h.y3.through hb, h.ty.through hb, h.ny⟩
theorem VEn.drew (h : VEn w0 b15 gb ts vo body xs3 tos tgy B T B3 Ay nb n nb3 W) : VEn w0 b15 gb ts vo body xs3 tos tgy B T B3 Ay nb n nb3 W.drew := h.through ((Below.refl _ W).drew)
theorem VEn.byB (h : VEn w0 b15 gb ts vo body xs3 tos tgy B T B3 Ay nb n nb3 W) (hs : BS W' gb [] ts) (hf : KF gb W W') : VEn w0 b15 gb ts vo body xs3 tos tgy B T B3 Ay nb n nb3 W' := by
  have h1 := h.l15
  exact ⟨h.bel.trans (hf.low.mono (by omega)), h1, hf.blk h.m15 (by omega), hs, h.yb.kf hf (fun k hk => by omega), h.yt.kf hf (fun k hk => by omega), h.y3.kf hf (fun k hk => by omega), h.ty.kfNe hf (fun o e => by have := h.ny o e; omega), h.ny⟩
theorem VEn.ck (h : VEn w0 b15 gb (tsV f tx tos n) vo body xs3 tos (tgsB f tx tos n) B T B3 Ay nb n nb3 W) (hnb : nb3 ≤ 100000) (hn : n ≤ 100000) (htx : tx = kb k :: body) {k3 f3 : Int} (c3 dy : Nat) {j : Nat} (hj : j < n) {tj : Int} (htj : tj = tos.getD j 0) {e1 : Bool} {r : Int} (he : decide (kb k3 = kb k ∧ f3 = f ∧ xs3 = body) = e1) (hr : r = if e1 then 0 else 12) :
    Calls Tryd.prog 10 #[.iface 30 (.pointer (some ⟨gb, 0, none⟩)), .agg #[.int .i64 k3, .int .i64 f3, .slice B3 nb3 c3, .slice Ay n dy], .int .i64 (j : Int), .int .i64 tj] W fun e w' => e = .returned (.int .i64 r) ∧ BS w' gb [] (tsV f tx tos n) ∧ KF gb W w' := by
  have hl := tsV_len (tx := tx) (f := f) (tos := tos) (n := n)
  have h1 := check_book gb [] (tsV f tx tos n) k3 f3 tj xs3 (bookTag (tsV f tx tos n) (f, tj, tx)) (tgsB f tx tos n) _ B3 nb3 c3 hnb Ay n dy j (by rw [htj]; exact tgsB_at hj) (by omega) W h.bk h.y3 h.ty (fun o e => by have := h.ny o e; omega)
  rw [holds_made (by rw [htj]; exact tsV_mem hj) (by omega), show decide (((f3, tj, kb k3 :: xs3) : TK) = (f, tj, tx)) = e1 by rw [← he, htx]; exact decide_eq_decide.2 (by simp only [Prod.mk.injEq, List.cons.injEq, true_and]; exact ⟨fun h => ⟨h.2.1, h.1, h.2.2⟩, fun h => ⟨h.2.1, h.1, h.2.2⟩⟩), ← hr] at h1
  exact h1
end

end Go.Proofs.YtnncfhkgcaoomaaDoor
