"""Ledelsewhere: which page is shown while guards ask, pages load late and the history goes back and forward."""
